import Derived.Test.YtlidicnbmfkghaaGreatDoorGa
import Derived.Deep.RegionWith
import Derived.Laws.MakeOwn
import Derived.Deep.DeepCutAuto
import Derived.Laws.Shifts
/- The call Fits: is a number one of 64 bits; that number. -/
namespace Go.Proofs.YtlidicnbmfkghaaGreatDoor
open Go.RowKit

def two63 : Int := 9223372036854775808
theorem two63_pow : (2 : Int) ^ 63 = two63 := by decide
theorem power63 (W : World) : Calls Tryz.prog 50 #[.int .i64 63] W (RetZ W two63) := by
  have := power_any 63 (by decide) W
  rw [two63_pow] at this
  exact this
theorem two63_small : (two63).natAbs < 65536 ^ 4 := by rw [pow4]; decide
theorem ntwo63_small : (-two63).natAbs < 65536 ^ 4 := by rw [pow4]; decide

set_option maxRecDepth 100000 in
set_option maxHeartbeats 2000000 in
theorem fits_great (p : Bool) (A : Option Addr) (n c : Nat) (z : Int) (w : World) (hz : Zs w p A n c z) (hn : n ≤ 900000) (h : two63 ≤ z) :
    Calls Tryz.prog 24 #[.agg #[.bool p, .slice A n c]] w fun e w' => e = .returned (.tuple #[.int .i64 0, .bool false]) ∧ Below w.heap.size w w' := by
  have hc : 0 ≤ cmpZ z two63 := by
    rcases Int.lt_or_eq_of_le h with h1 | h1
    · rw [cmpZ_gt h1]; decide
    · rw [cmpZ_eq h1.symm]; decide
  clear h
  generalize hv : cmpZ z two63 = cv at *
  have HV := Lib.hid hv
  clear hv
  go_enter Tryz.func24, Tryz.ntmps24
  go_wp2_with fail
  have b1 := Box.new w p (.slice A n c) 61
  have hb0 : Below w.heap.size w (w.alloc (.cells #[.bool p, .slice A n c] 61)) := (Below.refl _ _).alloc (Nat.le_refl _) _
  generalize w.alloc (.cells #[.bool p, .slice A n c] 61) = w0 at *
  have B := b1.drew
  obtain ⟨_, a0, a1, _, _⟩ := b1
  have hX := (hz.below hb0).drew
  go_region_with (first
      | (go_at_call 50; refine (power63 _).mono ?_; rintro e w1 ⟨r, C, k, f, rfl, hD, hb⟩
         have hk := hD.small two63_small
         have hX1 := hX.below hb
         obtain ⟨_, a2, a3, _, _⟩ := B.below' hb)
      | (go_at_call 48; refine (cmp_any p r A C n k c f z two63 _ hX1 hD hn (by omega)).mono ?_; rintro e w2 ⟨rfl, hb2⟩
         rw [HV.out]))
  all_goals
    have HB := below_next (below_next hb0.drew hb) hb2
    go_wp2
    go_ret2
    exact ⟨rfl, HB⟩

set_option maxRecDepth 100000 in
set_option maxHeartbeats 4000000 in
theorem fits_less (p : Bool) (A : Option Addr) (n c : Nat) (z : Int) (w : World) (hz : Zs w p A n c z) (hn : n ≤ 900000) (h : z < -two63) :
    Calls Tryz.prog 24 #[.agg #[.bool p, .slice A n c]] w fun e w' => e = .returned (.tuple #[.int .i64 0, .bool false]) ∧ Below w.heap.size w w' := by
  have hc1 : cmpZ z two63 = -1 := cmpZ_lt (by unfold two63 at *; omega)
  have hc2 : cmpZ z (-two63) = -1 := cmpZ_lt h
  clear h
  have HV1 := Lib.hid hc1
  have HV2 := Lib.hid hc2
  clear hc1 hc2
  go_enter Tryz.func24, Tryz.ntmps24
  go_wp2_with fail
  have b1 := Box.new w p (.slice A n c) 61
  have hb0 : Below w.heap.size w (w.alloc (.cells #[.bool p, .slice A n c] 61)) := (Below.refl _ _).alloc (Nat.le_refl _) _
  generalize w.alloc (.cells #[.bool p, .slice A n c] 61) = w0 at *
  have B := b1.drew
  obtain ⟨_, a0, a1, _, _⟩ := b1
  have hX := (hz.below hb0).drew
  have HB := hb0.drew
  clear hb0 hz
  go_region_held3 (fun w' => w'.cell? ⟨w.heap.size, 0, none⟩ = some (.bool p) ∧ w'.cell? ⟨w.heap.size, 1, none⟩ = some (.slice A n c)) (first | go_keep | exact ⟨B.c0, B.c1⟩)
    (first
      | (go_at_call 50; refine (power63 _).mono ?_; rintro e w1 ⟨r, C, k, f, rfl, hD, hb⟩
         have hk := hD.small two63_small
         replace hX := hX.below hb
         replace B := B.below' hb
         replace HB := below_next HB hb
         clear hb
         obtain ⟨_, a2, a3, _, _⟩ := id B)
      | (go_at_call 51; refine (neg_any r C k f _ _ hD (by omega)).mono ?_; rintro e w1 ⟨r, C, k, f, rfl, hD, hb⟩
         have hk := hD.small ntwo63_small
         replace hX := hX.below hb
         replace B := B.below' hb
         replace HB := below_next HB hb
         clear hb
         obtain ⟨_, a2, a3, _, _⟩ := id B)
      | (go_at_call 48; refine (cmp_any p r A C n k c f z _ _ hX hD hn (by omega)).mono ?_; rintro e w2 ⟨rfl, hb⟩
         first | rw [HV1.out] | rw [HV2.out]
         replace hX := hX.below hb
         replace B := B.below' hb
         replace HB := below_next HB hb
         clear hb
         obtain ⟨_, a2, a3, _, _⟩ := id B))
  go_wp2
  go_ret2
  exact ⟨rfl, HB⟩

theorem val_drop_le (l : List Nat) (k : Nat) : val (l.drop k) ≤ val l := by
  rcases Nat.lt_or_ge l.length k with h | h
  · rw [List.drop_of_length_le (by omega)]; exact Nat.zero_le _
  · rw [val_split l k h]
    have : val (l.drop k) ≤ 65536 ^ k * val (l.drop k) := Nat.le_mul_of_pos_left _ (Nat.pow_pos (by decide))
    omega
/-- What holds at the head of a round of Fits. -/
def FitsRel (p : Bool) (n : Nat) (l : List Nat) (v i : Value) : Prop :=
  ∃ k : Nat, k ≤ n ∧ i = .int .i64 ((k : Int) - 1) ∧ v = .int .i64 (sgn p (val (l.drop k)))

set_option maxRecDepth 100000 in
set_option maxHeartbeats 4000000 in
theorem fits_yes (p : Bool) (A : Option Addr) (n c : Nat) (z : Int) (w : World) (hz : Zs w p A n c z) (hn : n ≤ 900000) (h1 : -two63 ≤ z) (h2 : z < two63) :
    Calls Tryz.prog 24 #[.agg #[.bool p, .slice A n c]] w fun e w' => e = .returned (.tuple #[.int .i64 z, .bool true]) ∧ Below w.heap.size w w' := by
  have hc1 : cmpZ z two63 = -1 := cmpZ_lt h2
  have hc2 : ¬ (cmpZ z (-two63) < 0) := by
    rcases Int.lt_or_eq_of_le h1 with h3 | h3
    · rw [cmpZ_gt h3]; decide
    · rw [cmpZ_eq h3.symm]; decide
  generalize hcv : cmpZ z (-two63) = cv at *
  have hv := hz.val
  have HV1 := Lib.hid hc1
  have HV2 := Lib.hid hcv
  have HZ := Lib.hid hv
  have H1 := Lib.hid h1
  have H2 := Lib.hid h2
  clear hc1 hcv h1 h2 hv
  go_enter Tryz.func24, Tryz.ntmps24
  go_wp2_with fail
  have b1 := Box.new w p (.slice A n c) 61
  have hb0 : Below w.heap.size w (w.alloc (.cells #[.bool p, .slice A n c] 61)) := (Below.refl _ _).alloc (Nat.le_refl _) _
  generalize w.alloc (.cells #[.bool p, .slice A n c] 61) = w0 at *
  have B := b1.drew
  obtain ⟨_, a0, a1, _, _⟩ := b1
  have hX := (hz.below hb0).drew
  have HB := hb0.drew
  clear hb0 hz
  go_region_held3 (fun w' => w'.cell? ⟨w.heap.size, 0, none⟩ = some (.bool p) ∧ w'.cell? ⟨w.heap.size, 1, none⟩ = some (.slice A n c)) (first | go_keep | exact ⟨B.c0, B.c1⟩)
    (first
      | (go_at_call 50; refine (power63 _).mono ?_; rintro e w1 ⟨r, C, k, f, rfl, hD, hb⟩
         have hk := hD.small two63_small
         replace hX := hX.below hb
         replace B := B.below' hb
         replace HB := below_next HB hb
         clear hb
         obtain ⟨_, a2, a3, _, _⟩ := id B)
      | (go_at_call 51; refine (neg_any r C k f _ _ hD (by omega)).mono ?_; rintro e w1 ⟨r, C, k, f, rfl, hD, hb⟩
         have hk := hD.small ntwo63_small
         replace hX := hX.below hb
         replace B := B.below' hb
         replace HB := below_next HB hb
         clear hb
         obtain ⟨_, a2, a3, _, _⟩ := id B)
      | (go_at_call 48; refine (cmp_any p r A C n k c f z _ _ hX hD hn (by omega)).mono ?_; rintro e w2 ⟨rfl, hb⟩
         first | rw [HV1.out] | rw [HV2.out]
         replace hX := hX.below hb
         replace B := B.below' hb
         replace HB := below_next HB hb
         clear hb
         obtain ⟨_, a2, a3, _, _⟩ := id B))
  have hds := hX.ds
  clear hX
  go_wp2_with fail
  go_loop [4, 5] (fun v i => FitsRel p n (digs z.natAbs) v i) (fun _ i => (intOf i + 1).toNat)
  case atStart =>
    refine ⟨n, Nat.le_refl _, rfl, ?_⟩
    rw [List.drop_of_length_le (by rw [hds.len]; exact Nat.le_refl _)]
    cases p <;> rfl
  case round =>
    obtain ⟨k, hk, rfl, rfl⟩ := hrel
    clear a0 a1
    rcases k with _ | k
    · have he : sgn p (val ((digs z.natAbs).drop 0)) = z := by rw [List.drop_zero, val_digs]; exact HZ.out
      have HE := Lib.hid he
      clear he
      rw [HE.out]
      go_wp2
      go_ret2
      exact ⟨rfl, HB⟩
    · rw [show ((k + 1 : Nat) : Int) - 1 = k from by omega]
      obtain ⟨g, rfl, hg, hcl⟩ := hds.cells (by omega)
      have q1 := hcl k (by omega)
      have hlt : k < (digs z.natAbs).length := by rw [hds.len]; omega
      have hstep := val_drop (digs z.natAbs) k hlt
      have hle := val_drop_le (digs z.natAbs) k
      rw [val_digs] at hle
      have hd := hds.dig.getD k
      have hz1 := HZ.out
      have hz2 := H1.out
      have hz3 := H2.out
      clear hcl hlt
      generalize (digs z.natAbs).getD k 0 = D at *
      generalize val ((digs z.natAbs).drop (k + 1)) = V at *
      have HS := Lib.hid hstep
      have hpk : (0 : Int) ≤ k := by omega
      cases p
      · have hb1 : D + 65536 * V ≤ 9223372036854775807 := by
          unfold two63 at *
          unfold sgn at hz1
          simp at hz1
          omega
        clear hstep hle hz1 hz2 hz3
        rw [show sgn false V = (V : Int) from rfl]
        go_wp2
        go_round
        case rel => exact ⟨k, by omega, rfl, int_eq (by rw [HS.out]; show _ = ((D + 65536 * V : Nat) : Int); omega)⟩
        case measure => simp only [intOf]; omega
      · have hb1 : D + 65536 * V ≤ 9223372036854775808 := by
          unfold two63 at *
          unfold sgn at hz1
          simp at hz1
          omega
        clear hstep hle hz1 hz2 hz3
        rw [show sgn true V = -(V : Int) from rfl]
        go_wp2
        go_round
        case rel => exact ⟨k, by omega, rfl, int_eq (by rw [HS.out]; show _ = -((D + 65536 * V : Nat) : Int); omega)⟩
        case measure => simp only [intOf]; omega

end Go.Proofs.YtlidicnbmfkghaaGreatDoor

/- The call Mul: the product of two numbers. -/
namespace Go.Proofs.YtlidicnbmfkghaaGreatDoor
open Go.RowKit

/-- block g holds the digits l, as cells of int, not frozen -/
structure Row (w : World) (g : Nat) (l : List Nat) : Prop where
  lt : g < w.heap.size
  dig : Dig l
  cells : ∀ j, j < l.length → w.cell? ⟨g, j, none⟩ = some (.int .i64 (l.getD j 0 : Nat))
  frz : ∀ j, w.frozen? ⟨g, j, none⟩ = false
theorem Row.drew {w : World} {g : Nat} {l : List Nat} (h : Row w g l) (k : Nat) : Row (w.drewN k) g l := ⟨h.lt, h.dig, h.cells, h.frz⟩
theorem Row.set {w : World} {g : Nat} {l : List Nat} (h : Row w g l) {i d : Nat} (hi : i < l.length) (hd : d < 65536) : Row (w.setCell ⟨g, i, none⟩ (.int .i64 (d : Int))) g (l.set i d) := by
  refine ⟨by simpa [World.setCell] using h.lt, h.dig.set hd, fun j hj => ?_, fun j => by simp [h.frz]⟩
  by_cases e : i = j
  · subst e
    rw [World.cell?_setCell_same _ _ _ (h.cells i hi)]
    simp [hi]
  · rw [World.cell?_setCell_other _ _ _ _ (fun e' => e (congrArg Addr.off e'))]
    rw [h.cells j (by simpa using hj)]
    simp [List.getD_eq_getElem?_getD, e]
theorem Row.ds {w : World} {g : Nat} {l : List Nat} (h : Row w g l) (hl : l.length ≤ 1000000) : Ds w (some ⟨g, 0, none⟩) l.length l.length l :=
  ⟨rfl, Nat.le_refl _, by unfold maxLen; omega, h.dig, fun _ => ⟨g, rfl, h.lt, h.cells⟩⟩

theorem Row.of_made {w : World} {base g n N : Nat} (h : w.ownsRow base 3 1 (.slice (some ⟨g, 0, none⟩) n n) n (madeCells (Value.int .i64 0).cells N).toList) (hN : N = n) : Row w g (List.replicate n 0) := by
  subst hN
  have hl : (madeCells (Value.int .i64 0).cells N).toList = List.replicate N (.int .i64 0) := toList_madeCells_one _ _
  rw [hl] at h
  refine ⟨(h.lt g rfl).2, Dig.replicate _, fun j hj => ?_, fun j => ?_⟩
  · have hj' : j < N := by simpa using hj
    have := h.cells (g := g) rfl j (.int .i64 0) (by simp [hj'])
    have ea : ((⟨g, 0, none⟩ : Addr).add j) = ⟨g, j, none⟩ := by unfold Addr.add; split <;> simp_all
    rw [ea] at this
    rw [this]
    simp [hj']
  · rcases h.2 with ⟨h0, _⟩ | ⟨g', cap, cur, hv, _, hh, _⟩
    · cases h0
    · injection hv with h1 _ _
      injection h1 with h1
      injection h1 with h1 _ _
      subst h1
      simp [World.frozen?, hh]

theorem sgn_mul (p q : Bool) (u v : Nat) : sgn (p != q) (u * v) = sgn p u * sgn q v := by
  cases p <;> cases q
  · show ((u * v : Nat) : Int) = (u : Int) * (v : Int)
    rw [Int.natCast_mul]
  · show -((u * v : Nat) : Int) = (u : Int) * -(v : Int)
    rw [Int.natCast_mul, Int.mul_neg]
  · show -((u * v : Nat) : Int) = -(u : Int) * (v : Int)
    rw [Int.natCast_mul, Int.neg_mul]
  · show ((u * v : Nat) : Int) = -(u : Int) * -(v : Int)
    rw [Int.natCast_mul, Int.neg_mul_neg]

/-- What holds at the head of a round of Mul's outer loop, and of the inner one. -/
def MulRel (w3 : World) (g N : Nat) (a b : List Nat) (i : Value) (wr : World) : Prop :=
  ∃ (I : Nat) (out : List Nat), i = .int .i64 I ∧ I ≤ a.length ∧ Row wr g out ∧ out.length = N ∧ val out = val (a.take I) * val b ∧ Below w3.heap.size w3 wr
def MulIn (w3 : World) (g N I : Nat) (a b : List Nat) (cr k : Value) (wr : World) : Prop :=
  ∃ (c K : Nat) (out : List Nat), cr = .int .i64 c ∧ k = .int .i64 K ∧ K ≤ b.length + 1 ∧ c < 65536 ∧ Row wr g out ∧ out.length = N ∧
    val out + c * 65536 ^ (I + K) = val (a.take I) * val b + a.getD I 0 * val (b.take K) * 65536 ^ I ∧ Below w3.heap.size w3 wr

set_option maxRecDepth 100000 in
set_option maxHeartbeats 4000000 in
theorem mul_any (p q : Bool) (A B : Option Addr) (n m c d : Nat) (x y : Int) (w : World) (hx : Zs w p A n c x) (hy : Zs w q B m d y) (hn : n ≤ 400000) (hm : m ≤ 400000) :
    Calls Tryz.prog 25 #[.agg #[.bool p, .slice A n c], .agg #[.bool q, .slice B m d]] w (RetZ w (x * y)) := by
  obtain ⟨i0, hi, hz0, hz1, hz2⟩ := info_parts int_info
  go_enter Tryz.func25, Tryz.ntmps25
  go_wp2_with (at_make
               refine wpList_make_full _ rfl (.tmp 17) (.tmp 17) 59 rfl (w.heap.size + 3) 3 i0 _ 1 Tryz.underlying59 hi hz0 hz1 .i64 .i64 ((n : Int) + m + 1) ((n : Int) + m + 1) (n + m + 1) rfl rfl ?_ ?_ ?_ ?_ ?_ ?_
               · omega
               · omega
               · rw [hz2]; omega
               · unfold maxLen; omega
               · simp
               intro w4 hown hg4)
  obtain ⟨b1, b2, b3, hb0⟩ := boxes3 w p q false (.slice A n c) (.slice B m d) (.slice none 0 0) 61
  have hg3 : (((w.alloc (.cells #[.bool p, .slice A n c] 61)).alloc (.cells #[.bool q, .slice B m d] 61)).alloc (.cells #[.bool false, .slice none 0 0] 61)).heap.size = w.heap.size + 1 + 1 + 1 := by simp
  generalize ((w.alloc (.cells #[.bool p, .slice A n c] 61)).alloc (.cells #[.bool q, .slice B m d] 61)).alloc (.cells #[.bool false, .slice none 0 0] 61) = w3 at *
  have hX := (hx.below hb0).ds
  have hY := (hy.below hb0).ds
  have hb4 : Below w3.heap.size w3 w4 := (Below.refl _ _).grown hg4 (Nat.le_refl _) (fun k hk => by cases hk)
  have hrow := Row.of_made hown (by omega)
  rw [hg3] at hrow
  have hN : (List.replicate (n + m + 1) 0).length = n + m + 1 := List.length_replicate
  clear hown hg4
  have la := hX.len
  have lb := hY.len
  generalize hax : digs x.natAbs = a at *
  generalize hby : digs y.natAbs = b at *
  obtain ⟨g, hg⟩ : ∃ g, g = w.heap.size + 1 + 1 + 1 := ⟨_, rfl⟩
  rw [← hg] at hrow hg3 ⊢
  have hgl : w.heap.size + 2 < g := by omega
  have HG3 := Lib.hid hg3
  clear hg3
  have HG := Lib.hid hg
  have HN := Lib.hid hN
  have LA := Lib.hid la
  have LB := Lib.hid lb
  have HAX := Lib.hid hax
  have HBY := Lib.hid hby
  clear hg hN la lb hax hby
  go_loopw [6] (fun i wr => MulRel w3 g (n + m + 1) a b i wr) (fun i _ => n - (intOf i).toNat)
  case atStart => exact ⟨0, _, rfl, Nat.zero_le _, hrow, HN.out, by rw [val_replicate]; simp [val], hb4⟩
  case round =>
    obtain ⟨I, out, rfl, hI, hro, hlo, hvo, hbe⟩ := hrel
    clear hrow hb4
    obtain ⟨wo, rfl⟩ : ∃ wo : World, wo = wr := ⟨_, rfl⟩
    have hbs := hbe.size
    rw [LA.out] at hI
    have HLO := Lib.hid hlo
    have HVO := Lib.hid hvo
    clear hlo hvo
    have B1 := b1.below' hbe
    have B2 := b2.below' hbe
    by_cases hlt : I < n
    · obtain ⟨_, a0, a1, _, _⟩ := id B1
      obtain ⟨_, c0, c1, _, _⟩ := id B2
      go_wp2_with fail
      clear a0 a1 c0 c1 B1 B2
      go_loopw [7, 8] (fun cr k wr => MulIn w3 g (n + m + 1) I a b cr k wr) (fun _ k _ => m + 2 - (intOf k).toNat)
      case atStart => exact ⟨0, 0, out, rfl, rfl, by omega, by omega, hro, HLO.out, by rw [HVO.out]; simp [val], hbe⟩
      case round =>
        clear hro hbe hbs HLO HVO
        obtain ⟨cy, K, out, rfl, rfl, hK, hcy, hro, hlo, hv, hbe⟩ := hrel
        have hbs := hbe.size
        have B1 := b1.below' hbe
        have B2 := b2.below' hbe
        obtain ⟨_, a0, a1, _, _⟩ := id B1
        obtain ⟨_, c0, c1, _, _⟩ := id B2
        have hAa := hX.below hbe
        have hBb := hY.below hbe
        have hIa : I < a.length := by rw [LA.out]; exact hlt
        have room := fun (h0 : 0 < cy) (h1 : b.length ≤ K) => mul_room hX.dig hY.dig hIa h0 hv h1
        rw [LB.out] at hK room
        have ROOM := Lib.hid room
        clear room
        have hcase : (K < m) ∨ (¬ K < m ∧ 0 < cy) ∨ (¬ K < m ∧ cy = 0) := by omega
        rcases hcase with h1 | ⟨h1, h2⟩ | ⟨h1, rfl⟩
        case inr.inr =>
          have hfin := mul_round hv (by rw [LB.out]; omega)
          have HF := Lib.hid hfin
          have HLO := Lib.hid hlo
          clear hfin hv hlo ROOM
          go_wp2
          go_roundw
          case rel => exact ⟨I + 1, out, int_eq (by omega), by rw [LA.out]; omega, hro, HLO.out, HF.out, hbe⟩
          case measure => simp only [intOf]; omega
        all_goals
          have hKm : K ≤ m := by first | omega | (have := ROOM.out h2 (by omega); omega)
          have hj : I + K < out.length := by rw [hlo]; omega
          obtain ⟨hs1, hs2, hs3, hs4⟩ := mul_step hro.dig hY.dig (hX.dig.getD I) hcy hj hv
          have oc := hro.cells (I + K) hj
          have hset := fun j => (hro.drew j).set (i := I + K) (d := (out.getD (I + K) 0 + a.getD I 0 * b.getD K 0 + cy) % 65536) hj (Nat.mod_lt _ (by decide))
          obtain ⟨ga, hA, hga, hcl⟩ := hAa.cells (by omega)
          subst hA
          have xc := hcl I hlt
          have C2 := fun j => digit_same (i := K) (ds_drewN hBb j) (by omega) (by omega)
          have o1 := hro.dig.getD (I + K)
          have x1 := hX.dig.getD I
          have y1 := hY.dig.getD K
          have f1 := hro.frz (I + K)
          have HS4 := Lib.hid hs4
          have HLO := Lib.hid hlo
          have HSET := Lib.hid hset
          clear hs4 hv hlo hcl hset ROOM hro
          generalize out.getD (I + K) 0 = o at *
          generalize hxa : a.getD I 0 = xa at *
          have HXA := Lib.hid hxa
          clear hxa
          generalize b.getD K 0 = yb at *
          have hp1 : (xa : Int) * yb ≤ 4294836225 := by
            have : xa * yb ≤ 65535 * 65535 := Nat.mul_le_mul (by omega) (by omega)
            have h3 : ((xa * yb : Nat) : Int) ≤ 4294836225 := by omega
            rwa [Int.natCast_mul] at h3
          have hp0 : 0 ≤ (xa : Int) * yb := by rw [← Int.natCast_mul]; omega
          have hi1 : (I : Int) < n := by omega
          have hi2 : (I : Int) + K < n + m + 1 := by omega
          have ec1 : ((o + xa * yb + cy : Nat) : Int) % 65536 = ((o + xa * yb + cy) % 65536 : Nat) := by omega
          have ec2 : ((o + xa * yb + cy : Nat) : Int) / 65536 = ((o + xa * yb + cy) / 65536 : Nat) := by omega
          rw [Int.natCast_add, Int.natCast_add, Int.natCast_mul] at ec1 ec2
          have EC1 := Lib.hid ec1
          have EC2 := Lib.hid ec2
          clear ec1 ec2
          go_wp2_with fail
          go_quiet ((go_at_call 52; exact Calls.quiet_of_same (C2 _)))
          go_wp2
          go_roundw
          case rel =>
            refine ⟨(o + xa * yb + cy) / 65536, K + 1, out.set (I + K) ((o + xa * yb + cy) % 65536), int_eq EC2.out, int_eq (by omega), by rw [LB.out]; omega, hs2, ?_, by rw [List.length_set]; exact HLO.out, by rw [HXA.out]; exact HS4.out, (below_drewN hbe nq).setCell (p := ⟨g, I + K, none⟩) (by rw [HG3.out]; exact Nat.le_refl _) _⟩
            rw [EC1.out]
            exact HSET.out nq
          case measure => simp only [intOf]; omega
    · have hIn : I = n := by omega
      subst hIn
      have hfin : sgn (p != q) (val out) = x * y := by
        rw [HVO.out, List.take_of_length_le (by rw [LA.out]; exact Nat.le_refl _), ← HAX.out, ← HBY.out, val_digs, val_digs]
        have h1 := hx.val
        have h2 := hy.val
        rw [sgn_mul, h1, h2]
      have HF := Lib.hid hfin
      have hds := hro.ds (by rw [HLO.out]; omega)
      rw [HLO.out] at hds
      have B3 := b3.below' hbe
      have HB := below_next hb0 hbe
      clear hfin hbs hro
      obtain ⟨_, a0, a1, _, _⟩ := id B1
      obtain ⟨_, c0, c1, _, _⟩ := id B2
      clear B1 B2
      go_wp2_with fail
      refine (tidy_any (p != q) _ _ _ out _ hds (by omega)).mono ?_
      rintro e w5 ⟨r, C, k, f, rfl, hz, hb⟩
      rw [HF.out] at hz
      have B3' := B3.below' hb
      have HB' := below_next HB hb
      clear B3 HB hb a0 a1 c0 c1
      obtain ⟨_, d2, d3, e2, e3⟩ := id B3'
      go_wp2
      exact bodyPost_ret (v := .agg #[.bool r, .slice C k f]) (by simp [results, Tryz.results25, go_sem, d2, d3]) rfl (B3'.ret hz HB' (by omega))
end Go.Proofs.YtlidicnbmfkghaaGreatDoor

/- The call long: the quotient and the rest of two numbers without signs, bit by bit. -/
namespace Go.Proofs.YtlidicnbmfkghaaGreatDoor
open Go.RowKit

/-- What long leaves. -/
def RetQR (w : World) (q r : Int) (e : Ending) (w' : World) : Prop :=
  ∃ p A n c s B m d, e = .returned (.tuple #[.agg #[.bool p, .slice A n c], .agg #[.bool s, .slice B m d]]) ∧ Zs w' p A n c q ∧ Zs w' s B m d r ∧ Below w.heap.size w w'

/-- What stands while long runs: the blocks of a, b, the two answers, q and r; the four numbers; below the old memory's end all as it was. -/
structure LongSt (w W : World) (A : Option Addr) (n c : Nat) (x : Int) (B : Option Addr) (m d : Nat) (y : Int) (pq : Bool) (Aq : Option Addr) (nq cq : Nat) (Q : Int) (pr : Bool) (Ar : Option Addr) (nr cr : Nat) (R : Int) : Prop where
  ba : Box W w.heap.size false (.slice A n c)
  bb : Box W (w.heap.size + 1) false (.slice B m d)
  b1 : Box W (w.heap.size + 1 + 1) false (.slice none 0 0)
  b2 : Box W (w.heap.size + 1 + 1 + 1) false (.slice none 0 0)
  bq : Box W (w.heap.size + 1 + 1 + 1 + 1) pq (.slice Aq nq cq)
  br : Box W (w.heap.size + 1 + 1 + 1 + 1 + 1) pr (.slice Ar nr cr)
  za : Zs W false A n c x
  zb : Zs W false B m d y
  zq : Zs W pq Aq nq cq Q
  zr : Zs W pr Ar nr cr R
  hb : Below w.heap.size w W
section
variable {w W W' : World} {A : Option Addr} {n c : Nat} {x : Int} {B : Option Addr} {m d : Nat} {y : Int} {pq : Bool} {Aq : Option Addr} {nq cq : Nat} {Q : Int} {pr : Bool} {Ar : Option Addr} {nr cr : Nat} {R : Int}
theorem LongSt.below (h : LongSt w W A n c x B m d y pq Aq nq cq Q pr Ar nr cr R) (k : Below W.heap.size W W') : LongSt w W' A n c x B m d y pq Aq nq cq Q pr Ar nr cr R :=
  ⟨h.ba.below' k, h.bb.below' k, h.b1.below' k, h.b2.below' k, h.bq.below' k, h.br.below' k, h.za.below k, h.zb.below k, h.zq.below k, h.zr.below k, below_next h.hb k⟩
theorem LongSt.eqQR (h : LongSt w W A n c x B m d y pq Aq nq cq Q pr Ar nr cr R) {Q' R' : Int} (hQ : Q = Q') (hR : R = R') : LongSt w W A n c x B m d y pq Aq nq cq Q' pr Ar nr cr R' := hQ ▸ hR ▸ h
theorem LongSt.drew (h : LongSt w W A n c x B m d y pq Aq nq cq Q pr Ar nr cr R) : LongSt w W.drew A n c x B m d y pq Aq nq cq Q pr Ar nr cr R := h.below (Below.refl _ _).drew
theorem LongSt.setR (h : LongSt w W A n c x B m d y pq Aq nq cq Q pr Ar nr cr R) {p : Bool} {C : Option Addr} {k f : Nat} {z : Int} (hz : Zs W p C k f z) :
    LongSt w ((W.setCell ⟨w.heap.size + 1 + 1 + 1 + 1 + 1, 0, none⟩ (.bool p)).setCell ⟨w.heap.size + 1 + 1 + 1 + 1 + 1, 1, none⟩ (.slice C k f)) A n c x B m d y pq Aq nq cq Q p C k f z :=
  ⟨h.ba.far2 (by omega) _ _, h.bb.far2 (by omega) _ _, h.b1.far2 (by omega) _ _, h.b2.far2 (by omega) _ _, h.bq.far2 (by omega) _ _, h.br.self2 _ _, h.za.set2 h.br.c0 _ _, h.zb.set2 h.br.c0 _ _, h.zq.set2 h.br.c0 _ _, hz.set2 h.br.c0 _ _,
   (h.hb.setCell (p := ⟨w.heap.size + 1 + 1 + 1 + 1 + 1, 0, none⟩) (by show _ ≤ w.heap.size + 1 + 1 + 1 + 1 + 1; omega) _).setCell (p := ⟨w.heap.size + 1 + 1 + 1 + 1 + 1, 1, none⟩) (by show _ ≤ w.heap.size + 1 + 1 + 1 + 1 + 1; omega) _⟩
theorem LongSt.setQ (h : LongSt w W A n c x B m d y pq Aq nq cq Q pr Ar nr cr R) {p : Bool} {C : Option Addr} {k f : Nat} {z : Int} (hz : Zs W p C k f z) :
    LongSt w ((W.setCell ⟨w.heap.size + 1 + 1 + 1 + 1, 0, none⟩ (.bool p)).setCell ⟨w.heap.size + 1 + 1 + 1 + 1, 1, none⟩ (.slice C k f)) A n c x B m d y p C k f z pr Ar nr cr R :=
  ⟨h.ba.far2 (by omega) _ _, h.bb.far2 (by omega) _ _, h.b1.far2 (by omega) _ _, h.b2.far2 (by omega) _ _, h.bq.self2 _ _, h.br.far2 (by omega) _ _, h.za.set2 h.bq.c0 _ _, h.zb.set2 h.bq.c0 _ _, hz.set2 h.bq.c0 _ _, h.zr.set2 h.bq.c0 _ _,
   (h.hb.setCell (p := ⟨w.heap.size + 1 + 1 + 1 + 1, 0, none⟩) (by show _ ≤ w.heap.size + 1 + 1 + 1 + 1; omega) _).setCell (p := ⟨w.heap.size + 1 + 1 + 1 + 1, 1, none⟩) (by show _ ≤ w.heap.size + 1 + 1 + 1 + 1; omega) _⟩
theorem LongSt.done (h : LongSt w W A n c x B m d y pq Aq nq cq Q pr Ar nr cr R) :
    RetQR w Q R (.returned (.tuple #[.agg #[.bool pq, .slice Aq nq cq], .agg #[.bool pr, .slice Ar nr cr]])) (((((W.setCell ⟨w.heap.size + 1 + 1, 0, none⟩ (.bool pq)).setCell ⟨w.heap.size + 1 + 1, 1, none⟩ (.slice Aq nq cq)).setCell ⟨w.heap.size + 1 + 1 + 1, 0, none⟩ (.bool pr)).setCell ⟨w.heap.size + 1 + 1 + 1, 1, none⟩ (.slice Ar nr cr)).drew) := by
  have h2 := h.b2.far2 (b' := w.heap.size + 1 + 1) (by omega) (.bool pq) (.slice Aq nq cq)
  refine ⟨pq, Aq, nq, cq, pr, Ar, nr, cr, rfl, ((h.zq.set2 h.b1.c0 pq _).set2 h2.c0 pr _).drew, ((h.zr.set2 h.b1.c0 pq _).set2 h2.c0 pr _).drew, ?_⟩
  have k1 : w.heap.size ≤ w.heap.size + 1 + 1 := by omega
  have k2 : w.heap.size ≤ w.heap.size + 1 + 1 + 1 := by omega
  exact ((((h.hb.setCell (p := ⟨w.heap.size + 1 + 1, 0, none⟩) k1 _).setCell (p := ⟨w.heap.size + 1 + 1, 1, none⟩) k1 _).setCell (p := ⟨w.heap.size + 1 + 1 + 1, 0, none⟩) k2 _).setCell (p := ⟨w.heap.size + 1 + 1 + 1, 1, none⟩) k2 _).drew
end

theorem bitI (D j : Nat) : ((D : Int) / 2 ^ j).tmod 2 = ((D / 2 ^ j % 2 : Nat) : Int) := by
  have h : ((D : Int) / 2 ^ j) = ((D / 2 ^ j : Nat) : Int) := by
    rw [Int.natCast_ediv, Int.natCast_pow]; rfl
  rw [h, Int.tmod_eq_emod_of_nonneg (Int.natCast_nonneg _)]
  generalize D / 2 ^ j = u
  omega
theorem long_step (x y k : Nat) (h0 : 0 < y) :
    let t := x / 2 ^ k % 2
    let Q := x / 2 ^ (k + 1) / y
    let R := x / 2 ^ (k + 1) % y
    (y ≤ R + R + t → x / 2 ^ k / y = Q + Q + 1 ∧ x / 2 ^ k % y = R + R + t - y) ∧ (¬ y ≤ R + R + t → x / 2 ^ k / y = Q + Q ∧ x / 2 ^ k % y = R + R + t) ∧ R < y ∧ Q ≤ x := by
  intro t Q R
  have e1 : x / 2 ^ (k + 1) = x / 2 ^ k / 2 := by rw [Nat.pow_succ, Nat.div_div_eq_div_mul]
  have e2 : x / 2 ^ k = 2 * (x / 2 ^ (k + 1)) + t := by rw [e1]; omega
  have e3 : x / 2 ^ (k + 1) = y * Q + R := (Nat.div_add_mod _ _).symm
  have hR : R < y := Nat.mod_lt _ h0
  have ht : t < 2 := Nat.mod_lt _ (by decide)
  have e4 : x / 2 ^ k = y * (Q + Q) + (R + R + t) := by
    have h := Nat.mul_add y Q Q
    omega
  have hQ : Q ≤ x := Nat.le_trans (Nat.div_le_self _ _) (Nat.div_le_self _ _)
  refine ⟨fun h => ?_, fun h => ?_, hR, hQ⟩
  · have e5 : x / 2 ^ k = y * (Q + Q + 1) + (R + R + t - y) := by rw [e4, Nat.mul_succ]; omega
    have h6 : R + R + t - y < y := by omega
    rw [e5]
    exact ⟨by rw [Nat.mul_add_div h0, Nat.div_eq_of_lt h6, Nat.add_zero], by rw [Nat.mul_add_mod, Nat.mod_eq_of_lt h6]⟩
  · have h6 : R + R + t < y := by omega
    rw [e4]
    exact ⟨by rw [Nat.mul_add_div h0, Nat.div_eq_of_lt h6, Nat.add_zero], by rw [Nat.mul_add_mod, Nat.mod_eq_of_lt h6]⟩

/-- What holds at the head of a round of long. -/
def LongRel (w : World) (A : Option Addr) (n c x : Nat) (B : Option Addr) (m d y : Nat) (i : Value) (W : World) : Prop :=
  ∃ (k : Nat) (pq : Bool) (Aq : Option Addr) (nq cq : Nat) (pr : Bool) (Ar : Option Addr) (nr cr : Nat), i = .int .i64 ((k : Int) - 1) ∧ k ≤ 16 * n ∧
    LongSt w W A n c x B m d y pq Aq nq cq ((x / 2 ^ k / y : Nat) : Int) pr Ar nr cr ((x / 2 ^ k % y : Nat) : Int)

/-- the blocks that long makes first -/
theorem LongSt.made (w : World) (A B : Option Addr) (n m c d : Nat) (x y : Int) (hx : Zs w false A n c x) (hy : Zs w false B m d y) :
    LongSt w ((((((w.alloc (.cells #[.bool false, .slice A n c] 61)).alloc (.cells #[.bool false, .slice B m d] 61)).alloc (.cells #[.bool false, .slice none 0 0] 61)).alloc (.cells #[.bool false, .slice none 0 0] 61)).alloc (.cells #[.bool false, .slice none 0 0] 61)).alloc (.cells #[.bool false, .slice none 0 0] 61)) A n c x B m d y false none 0 0 0 false none 0 0 0 := by
  have k : ∀ (V : World) (o : Obj), Below V.heap.size V (V.alloc o) := fun V o => (Below.refl _ _).alloc (Nat.le_refl _) o
  have hb : Below w.heap.size w ((((((w.alloc (.cells #[.bool false, .slice A n c] 61)).alloc (.cells #[.bool false, .slice B m d] 61)).alloc (.cells #[.bool false, .slice none 0 0] 61)).alloc (.cells #[.bool false, .slice none 0 0] 61)).alloc (.cells #[.bool false, .slice none 0 0] 61)).alloc (.cells #[.bool false, .slice none 0 0] 61)) := below_next (below_next (below_next (below_next (below_next (k _ _) (k _ _)) (k _ _)) (k _ _)) (k _ _)) (k _ _)
  refine ⟨((((Box.new w _ _ _).alloc _).alloc _).alloc _).alloc _ |>.alloc _, ?_, ?_, ?_, ?_, ?_, hx.below hb, hy.below hb, Zs.zero _, Zs.zero _, hb⟩
  · have := ((((Box.new (w.alloc (.cells #[.bool false, .slice A n c] 61)) false (.slice B m d) 61).alloc (.cells #[.bool false, .slice none 0 0] 61)).alloc (.cells #[.bool false, .slice none 0 0] 61)).alloc (.cells #[.bool false, .slice none 0 0] 61)).alloc (.cells #[.bool false, .slice none 0 0] 61)
    simpa only [World.size_alloc] using this
  · have := (((Box.new ((w.alloc (.cells #[.bool false, .slice A n c] 61)).alloc (.cells #[.bool false, .slice B m d] 61)) false (.slice none 0 0) 61).alloc (.cells #[.bool false, .slice none 0 0] 61)).alloc (.cells #[.bool false, .slice none 0 0] 61)).alloc (.cells #[.bool false, .slice none 0 0] 61)
    simpa only [World.size_alloc] using this
  · have := ((Box.new (((w.alloc (.cells #[.bool false, .slice A n c] 61)).alloc (.cells #[.bool false, .slice B m d] 61)).alloc (.cells #[.bool false, .slice none 0 0] 61)) false (.slice none 0 0) 61).alloc (.cells #[.bool false, .slice none 0 0] 61)).alloc (.cells #[.bool false, .slice none 0 0] 61)
    simpa only [World.size_alloc] using this
  · have := (Box.new ((((w.alloc (.cells #[.bool false, .slice A n c] 61)).alloc (.cells #[.bool false, .slice B m d] 61)).alloc (.cells #[.bool false, .slice none 0 0] 61)).alloc (.cells #[.bool false, .slice none 0 0] 61)) false (.slice none 0 0) 61).alloc (.cells #[.bool false, .slice none 0 0] 61)
    simpa only [World.size_alloc] using this
  · have := Box.new (((((w.alloc (.cells #[.bool false, .slice A n c] 61)).alloc (.cells #[.bool false, .slice B m d] 61)).alloc (.cells #[.bool false, .slice none 0 0] 61)).alloc (.cells #[.bool false, .slice none 0 0] 61)).alloc (.cells #[.bool false, .slice none 0 0] 61)) false (.slice none 0 0) 61
    simpa only [World.size_alloc] using this

set_option maxRecDepth 100000 in
set_option maxHeartbeats 4000000 in
theorem long_any (A B : Option Addr) (n m c d x y : Nat) (w : World) (hx : Zs w false A n c x) (hy : Zs w false B m d y) (hn : n ≤ 4000) (hm : m ≤ 4000) (h0 : 0 < y) :
    Calls Tryz.prog 81 #[.agg #[.bool false, .slice A n c], .agg #[.bool false, .slice B m d]] w (RetQR w ((x / y : Nat) : Int) ((x % y : Nat) : Int)) := by
  go_enter Tryz.func81, Tryz.ntmps81
  go_wp2_with fail
  have st := LongSt.made w A B n m c d x y hx hy
  generalize (((((w.alloc (.cells #[.bool false, .slice A n c] 61)).alloc (.cells #[.bool false, .slice B m d] 61)).alloc (.cells #[.bool false, .slice none 0 0] 61)).alloc (.cells #[.bool false, .slice none 0 0] 61)).alloc (.cells #[.bool false, .slice none 0 0] 61)).alloc (.cells #[.bool false, .slice none 0 0] 61) = W at *
  have hstart : x / 2 ^ (16 * n) = 0 := by
    refine Nat.div_eq_of_lt ?_
    have h1 := lt_of_digs_len (n := x) (k := n) (by have := hx.len; rw [Int.natAbs_natCast] at this; omega)
    rw [show (65536 : Nat) = 2 ^ 16 from rfl, ← Nat.pow_mul] at h1
    exact h1
  have HST := Lib.hid hstart
  clear hstart hx hy
  go_loopw [8] (fun i W => LongRel w A n c x B m d y i W) (fun i _ => (intOf i + 1).toNat)
  case atStart =>
    refine ⟨16 * n, false, none, 0, 0, false, none, 0, 0, int_eq (by omega), Nat.le_refl _, ?_⟩
    rw [HST.out, Nat.zero_div, Nat.zero_mod]
    exact st
  case round =>
    obtain ⟨k, pq, Aq, nq, cq, pr, Ar, nr, cr, rfl, hk, sr⟩ := hrel
    clear st HST
    rcases k with _ | k
    · rw [Nat.pow_zero, Nat.div_one] at sr
      obtain ⟨_, q0, q1, _, _⟩ := id sr.bq
      obtain ⟨_, r0, r1, _, _⟩ := id sr.br
      obtain ⟨_, d0, d1, d2, d3⟩ := id sr.b1
      obtain ⟨_, e0, e1, e2, e3⟩ := id sr.b2
      go_wp2_with fail
      go_region
      go_wp2
      exact bodyPost_ret (v := .tuple #[.agg #[.bool pq, .slice Aq nq cq], .agg #[.bool pr, .slice Ar nr cr]]) (by simp [results, Tryz.results81, go_sem, d0, d1, e0, e1]) rfl sr.done
    · rw [show ((k + 1 : Nat) : Int) - 1 = k from by omega]
      obtain ⟨g, rfl, hg, hcl⟩ := sr.za.ds.cells (by omega)
      have xc := hcl (k / 16) (by omega)
      have hbit := bit_of sr.za.ds.dig k (by rw [sr.za.ds.len]; omega)
      have hd := sr.za.ds.dig.getD (k / 16)
      clear hcl
      generalize (digs (x : Int).natAbs).getD (k / 16) 0 = D at *
      rw [val_digs, Int.natAbs_natCast] at hbit
      have hyl := lt_of_digs_len (n := y) (k := m) (by have := sr.zb.len; rw [Int.natAbs_natCast] at this; omega)
      have hxl := lt_of_digs_len (n := x) (k := n) (by have := sr.za.len; rw [Int.natAbs_natCast] at this; omega)
      obtain ⟨hge, hlt, hR, hQ⟩ := long_step x y k h0
      have et : ((D : Int) / 2 ^ (k % 16)).tmod 2 = ((x / 2 ^ k % 2 : Nat) : Int) := by rw [bitI, hbit]
      have ht : x / 2 ^ k % 2 < 2 := Nat.mod_lt _ (by decide)
      clear hbit
      have ET := Lib.hid et
      have HGE := Lib.hid hge
      have HLT := Lib.hid hlt
      clear et hge hlt
      generalize x / 2 ^ k % 2 = t at *
      generalize hQe : x / 2 ^ (k + 1) / y = Q at *
      generalize hRe : x / 2 ^ (k + 1) % y = R at *
      have szQ : ((Q : Int)).natAbs < 65536 ^ n := by rw [Int.natAbs_natCast]; omega
      have szR : ((R : Int)).natAbs < 65536 ^ m := by rw [Int.natAbs_natCast]; omega
      have szQ2 : ((Q : Int) + Q).natAbs < 65536 ^ (n + 1) := by rw [Nat.pow_succ]; omega
      have szR2 : ((R : Int) + R).natAbs < 65536 ^ (m + 1) := by rw [Nat.pow_succ]; omega
      have szR3 : ((R : Int) + R + t).natAbs < 65536 ^ (m + 1) := by rw [Nat.pow_succ]; omega
      have szt : ((t : Int)).natAbs < 65536 ^ 1 := by omega
      have sz1 : ((1 : Int)).natAbs < 65536 ^ 1 := by decide
      have lq := sr.zq.small szQ
      have lr := sr.zr.small szR
      have lb := sr.zb.len
      have hmle : m ≤ 4000 := hm
      have SQ2 := Lib.hid szQ2
      have SR2 := Lib.hid szR2
      have SR3 := Lib.hid szR3
      have ST := Lib.hid szt
      have S1 := Lib.hid sz1
      have HYL := Lib.hid hyl
      have HQE := Lib.hid hQe
      have HRE := Lib.hid hRe
      clear hyl hxl hQ szQ szR szQ2 szR2 szR3 szt sz1 hQe hRe lb
      obtain ⟨_, a0, a1, _, _⟩ := id sr.ba
      obtain ⟨_, r0, r1, _, _⟩ := id sr.br
      go_wp2_with fail
      rw [ET.out]
      refine (add_any pr pr Ar Ar nr nr cr cr _ _ _ sr.zr sr.zr (by omega) (by omega)).mono ?_
      rintro e W1 ⟨p1, A1, n1, c1, rfl, z1, k1⟩
      have l1 := z1.small SR2.out
      have s1 := sr.below k1
      clear a0 a1 r0 r1 sr xc hg
      go_wp2_with fail
      refine (ofu_int (t : Int) (by omega) (by omega) _).mono ?_
      rintro e W2 ⟨p2, A2, n2, c2, rfl, z2, k2⟩
      have l2 := z2.small ST.out
      have s2 := s1.below k2
      have z1' := z1.below k2
      clear k1 k2 s1 z1
      go_wp2_with fail
      refine (add_any p1 p2 A1 A2 n1 n2 c1 c2 _ _ _ z1' z2 (by omega) (by omega)).mono ?_
      rintro e W3 ⟨p3, A3, n3, c3, rfl, z3, k3⟩
      have l3 := z3.small SR3.out
      have s3 := s2.below k3
      clear k3 s2 z1' z2
      have s4 := s3.setR z3
      obtain ⟨_, r0, r1, r2, r3⟩ := id s3.br
      obtain ⟨_, q0, q1, q2, q3⟩ := id s3.bq
      obtain ⟨_, b0, b1, _, _⟩ := id s3.bb
      go_wp2_with fail
      clear r0 r1 r2 r3 q0 q1 q2 q3 b0 b1 s3 z3
      generalize (W3.setCell ⟨w.heap.size + 1 + 1 + 1 + 1 + 1, 0, none⟩ (.bool p3)).setCell ⟨w.heap.size + 1 + 1 + 1 + 1 + 1, 1, none⟩ (.slice A3 n3 c3) = W4 at *
      refine (add_any pq pq Aq Aq nq nq cq cq _ _ _ s4.zq s4.zq (by omega) (by omega)).mono ?_
      rintro e W5 ⟨p5, A5, n5, c5, rfl, z5, k5⟩
      have l5 := z5.small SQ2.out
      have s5 := s4.below k5
      clear k5 s4
      have s6 := s5.setQ z5
      obtain ⟨_, r0, r1, r2, r3⟩ := id s5.br
      obtain ⟨_, q0, q1, q2, q3⟩ := id s5.bq
      obtain ⟨_, b0, b1, _, _⟩ := id s5.bb
      go_wp2_with fail
      clear r0 r1 r2 r3 q0 q1 q2 q3 b0 b1 s5 z5
      generalize (W5.setCell ⟨w.heap.size + 1 + 1 + 1 + 1, 0, none⟩ (.bool p5)).setCell ⟨w.heap.size + 1 + 1 + 1 + 1, 1, none⟩ (.slice A5 n5 c5) = W6 at *
      have lb := s6.zb.len
      have LB := Lib.hid lb
      clear lb
      refine (cmp_any p3 false A3 B n3 m c3 d _ _ _ s6.zr s6.zb (by omega) (by omega)).mono ?_
      rintro e W7 ⟨rfl, k7⟩
      have s7 := s6.below k7
      clear k7 s6
      obtain ⟨_, r0, r1, r2, r3⟩ := id s7.br
      obtain ⟨_, q0, q1, q2, q3⟩ := id s7.bq
      obtain ⟨_, b0, b1, _, _⟩ := id s7.bb
      by_cases hc : y ≤ R + R + t
      · have hcmp : 0 ≤ cmpZ ((R : Int) + R + t) y := by
          rcases Nat.lt_or_eq_of_le hc with h1 | h1
          · rw [cmpZ_gt (by omega)]; decide
          · rw [cmpZ_eq (by omega)]; decide
        obtain ⟨eQ, eR⟩ := HGE.out hc
        have EQ := Lib.hid eQ
        have ER := Lib.hid eR
        clear eQ eR
        generalize hcv : cmpZ ((R : Int) + R + t) y = cv at *
        clear hcv
        go_wp2_with fail
        refine (sub_any p3 false A3 B n3 m c3 d _ _ _ s7.zr s7.zb (by omega) (by omega)).mono ?_
        rintro e W8 ⟨p8, A8, n8, c8, rfl, z8, k8⟩
        have s8 := s7.below k8
        have s9 := s8.setR z8
        clear k8 s7 r0 r1 r2 r3 q0 q1 q2 q3 b0 b1
        obtain ⟨_, r0, r1, r2, r3⟩ := id s8.br
        go_wp2_with fail
        clear r0 r1 r2 r3 s8 z8
        generalize (W8.setCell ⟨w.heap.size + 1 + 1 + 1 + 1 + 1, 0, none⟩ (.bool p8)).setCell ⟨w.heap.size + 1 + 1 + 1 + 1 + 1, 1, none⟩ (.slice A8 n8 c8) = W9 at *
        have s9d := s9.drew
        obtain ⟨_, q0, q1, q2, q3⟩ := id s9.bq
        go_region_with (first
          | (go_at_call 47; refine (ofu_int 1 (by decide) (by decide) _).mono ?_; rintro e W10 ⟨p10, A10, n10, c10, rfl, z10, k10⟩
             have l10 := z10.small S1.out
             have s10 := s9d.below k10
             obtain ⟨_, q4, q5, q6, q7⟩ := id s10.bq)
          | (go_at_call 46; refine (add_any p5 p10 A5 A10 n5 n10 c5 c10 _ _ _ s10.zq z10 (by omega) (by omega)).mono ?_; rintro e W11 ⟨p11, A11, n11, c11, rfl, z11, k11⟩
             have s11 := s10.below k11
             have s12 := s11.setQ z11
             obtain ⟨_, q8, q9, qa, qb⟩ := id s11.bq))
        all_goals
          go_wp2
          go_roundw
          case rel => exact ⟨k, p11, A11, n11, c11, p8, A8, n8, c8, rfl, by omega, s12.eqQR (by rw [EQ.out]; omega) (by rw [ER.out]; omega)⟩
          case measure => simp only [intOf]; omega
      · have hcmp : cmpZ ((R : Int) + R + t) y < 0 := by
          rw [cmpZ_lt (by omega)]; decide
        obtain ⟨eQ, eR⟩ := HLT.out hc
        have EQ := Lib.hid eQ
        have ER := Lib.hid eR
        clear eQ eR
        generalize hcv : cmpZ ((R : Int) + R + t) y = cv at *
        clear hcv
        go_wp2
        go_roundw
        case rel => exact ⟨k, p5, A5, n5, c5, p3, A3, n3, c3, rfl, by omega, s7.eqQR (by rw [EQ.out]; omega) (by rw [ER.out]; omega)⟩
        case measure => simp only [intOf]; omega
end Go.Proofs.YtlidicnbmfkghaaGreatDoor

/- The call Div: the greatest whole number at most a quotient, and the rest. -/
namespace Go.Proofs.YtlidicnbmfkghaaGreatDoor
open Go.RowKit

theorem below_alloc (W : World) (o : Obj) : Below W.heap.size W (W.alloc o) := (Below.refl _ _).alloc (Nat.le_refl _) o

/-- What stands in the first statement of Div: L are the blocks made for q and r so far. -/
structure PreSt (w W : World) (L : List Nat) (p : Bool) (A : Option Addr) (n c : Nat) (x : Int) (q : Bool) (B : Option Addr) (m d : Nat) (y : Int) : Prop where
  ba : Box W w.heap.size p (.slice A n c)
  bb : Box W (w.heap.size + 1) q (.slice B m d)
  b1 : Box W (w.heap.size + 1 + 1) false (.slice none 0 0)
  b2 : Box W (w.heap.size + 1 + 1 + 1) false (.slice none 0 0)
  zx : Zs W p A n c x
  zy : Zs W q B m d y
  hb : Below w.heap.size w W
  al : ∀ b ∈ L, Box W b false (.slice none 0 0)
  ge : ∀ b ∈ L, w.heap.size + 1 + 1 + 1 < b
  nd : L.Nodup
/-- What stands behind it: g and h are the blocks of q and r. -/
structure DivSt (w W : World) (g h : Nat) (p : Bool) (A : Option Addr) (n c : Nat) (q : Bool) (B : Option Addr) (m d : Nat) (y : Int) (pq : Bool) (Aq : Option Addr) (nq cq : Nat) (Q : Int) (pr : Bool) (Ar : Option Addr) (nr cr : Nat) (R : Int) : Prop where
  ba : Box W w.heap.size p (.slice A n c)
  bb : Box W (w.heap.size + 1) q (.slice B m d)
  b1 : Box W (w.heap.size + 1 + 1) false (.slice none 0 0)
  b2 : Box W (w.heap.size + 1 + 1 + 1) false (.slice none 0 0)
  bq : Box W g pq (.slice Aq nq cq)
  br : Box W h pr (.slice Ar nr cr)
  zy : Zs W q B m d y
  zq : Zs W pq Aq nq cq Q
  zr : Zs W pr Ar nr cr R
  hb : Below w.heap.size w W
  gg : w.heap.size + 1 + 1 + 1 < g
  gh : w.heap.size + 1 + 1 + 1 < h
  ne : g ≠ h
section
variable {w W W' : World} {L : List Nat} {p : Bool} {A : Option Addr} {n c : Nat} {x : Int} {q : Bool} {B : Option Addr} {m d : Nat} {y : Int}
theorem PreSt.below (s : PreSt w W L p A n c x q B m d y) (k : Below W.heap.size W W') : PreSt w W' L p A n c x q B m d y :=
  ⟨s.ba.below' k, s.bb.below' k, s.b1.below' k, s.b2.below' k, s.zx.below k, s.zy.below k, below_next s.hb k, fun b hb => (s.al b hb).below' k, s.ge, s.nd⟩
theorem PreSt.drew (s : PreSt w W L p A n c x q B m d y) : PreSt w W.drew L p A n c x q B m d y := s.below (Below.refl _ _).drew
theorem PreSt.alloc1 (s : PreSt w W L p A n c x q B m d y) : PreSt w (W.alloc (.cells #[.bool false, .slice none 0 0] 61)) (W.heap.size :: L) p A n c x q B m d y := by
  have s' := s.below (below_alloc W (.cells #[.bool false, .slice none 0 0] 61))
  refine ⟨s'.ba, s'.bb, s'.b1, s'.b2, s'.zx, s'.zy, s'.hb, fun b hb => ?_, fun b hb => ?_, ?_⟩
  · rcases List.mem_cons.1 hb with rfl | hb
    · exact Box.new _ _ _ _
    · exact s'.al b hb
  · rcases List.mem_cons.1 hb with rfl | hb
    · exact s.b2.lt
    · exact s.ge b hb
  · refine List.nodup_cons.2 ⟨fun h => ?_, s.nd⟩
    have := (s.al _ h).lt
    omega
theorem PreSt.alloc2 (s : PreSt w W L p A n c x q B m d y) : PreSt w ((W.alloc (.cells #[.bool false, .slice none 0 0] 61)).alloc (.cells #[.bool false, .slice none 0 0] 61)) ((W.heap.size + 1) :: W.heap.size :: L) p A n c x q B m d y := by
  have := s.alloc1.alloc1
  rwa [World.size_alloc] at this
variable {g h : Nat} {pq : Bool} {Aq : Option Addr} {nq cq : Nat} {Q : Int} {pr : Bool} {Ar : Option Addr} {nr cr : Nat} {R : Int}
theorem DivSt.below (s : DivSt w W g h p A n c q B m d y pq Aq nq cq Q pr Ar nr cr R) (k : Below W.heap.size W W') : DivSt w W' g h p A n c q B m d y pq Aq nq cq Q pr Ar nr cr R :=
  ⟨s.ba.below' k, s.bb.below' k, s.b1.below' k, s.b2.below' k, s.bq.below' k, s.br.below' k, s.zy.below k, s.zq.below k, s.zr.below k, below_next s.hb k, s.gg, s.gh, s.ne⟩
theorem DivSt.setR (s : DivSt w W g h p A n c q B m d y pq Aq nq cq Q pr Ar nr cr R) {t : Bool} {C : Option Addr} {k f : Nat} {z : Int} (hz : Zs W t C k f z) :
    DivSt w ((W.setCell ⟨h, 0, none⟩ (.bool t)).setCell ⟨h, 1, none⟩ (.slice C k f)) g h p A n c q B m d y pq Aq nq cq Q t C k f z := by
  have h1 := s.gh
  have h2 := s.ne
  exact ⟨s.ba.far2 (by omega) _ _, s.bb.far2 (by omega) _ _, s.b1.far2 (by omega) _ _, s.b2.far2 (by omega) _ _, s.bq.far2 (by omega) _ _, s.br.self2 _ _, s.zy.set2 s.br.c0 _ _, s.zq.set2 s.br.c0 _ _, hz.set2 s.br.c0 _ _,
   (s.hb.setCell (p := ⟨h, 0, none⟩) (by show _ ≤ h; omega) _).setCell (p := ⟨h, 1, none⟩) (by show _ ≤ h; omega) _, s.gg, s.gh, s.ne⟩
theorem DivSt.setQ (s : DivSt w W g h p A n c q B m d y pq Aq nq cq Q pr Ar nr cr R) {t : Bool} {C : Option Addr} {k f : Nat} {z : Int} (hz : Zs W t C k f z) :
    DivSt w ((W.setCell ⟨g, 0, none⟩ (.bool t)).setCell ⟨g, 1, none⟩ (.slice C k f)) g h p A n c q B m d y t C k f z pr Ar nr cr R := by
  have h1 := s.gg
  have h2 := s.ne
  exact ⟨s.ba.far2 (by omega) _ _, s.bb.far2 (by omega) _ _, s.b1.far2 (by omega) _ _, s.b2.far2 (by omega) _ _, s.bq.self2 _ _, s.br.far2 (by omega) _ _, s.zy.set2 s.bq.c0 _ _, hz.set2 s.bq.c0 _ _, s.zr.set2 s.bq.c0 _ _,
   (s.hb.setCell (p := ⟨g, 0, none⟩) (by show _ ≤ g; omega) _).setCell (p := ⟨g, 1, none⟩) (by show _ ≤ g; omega) _, s.gg, s.gh, s.ne⟩
theorem PreSt.base (s : PreSt w W L p A n c x q B m d y) (hg : Box W g pq (.slice Aq nq cq)) (hh : Box W h pr (.slice Ar nr cr)) (gg : w.heap.size + 1 + 1 + 1 < g) (gh : w.heap.size + 1 + 1 + 1 < h) (ne : g ≠ h) (zq : Zs W pq Aq nq cq Q) (zr : Zs W pr Ar nr cr R) :
    DivSt w W g h p A n c q B m d y pq Aq nq cq Q pr Ar nr cr R := ⟨s.ba, s.bb, s.b1, s.b2, hg, hh, s.zy, zq, zr, s.hb, gg, gh, ne⟩
theorem PreSt.fin1 (s : PreSt w W L p A n c x q B m d y) (hg : g ∈ L) (hh : h ∈ L) (ne : g ≠ h) (zq : Zs W pq Aq nq cq Q) (zr : Zs W pr Ar nr cr R) :
    DivSt w ((((W.setCell ⟨g, 0, none⟩ (.bool pq)).setCell ⟨g, 1, none⟩ (.slice Aq nq cq)).setCell ⟨h, 0, none⟩ (.bool pr)).setCell ⟨h, 1, none⟩ (.slice Ar nr cr)) g h p A n c q B m d y pq Aq nq cq Q pr Ar nr cr R :=
  ((s.base (s.al g hg) (s.al h hh) (s.ge g hg) (s.ge h hh) ne (Zs.zero W) (Zs.zero W)).setQ zq).setR (zr.set2 (s.al g hg).c0 _ _)
theorem PreSt.fin1a (s : PreSt w W [h, g] p A n c x q B m d y) (zq : Zs W pq Aq nq cq Q) (zr : Zs W pr Ar nr cr R) :
    DivSt w ((((W.setCell ⟨g, 0, none⟩ (.bool pq)).setCell ⟨g, 1, none⟩ (.slice Aq nq cq)).setCell ⟨h, 0, none⟩ (.bool pr)).setCell ⟨h, 1, none⟩ (.slice Ar nr cr)) g h p A n c q B m d y pq Aq nq cq Q pr Ar nr cr R :=
  s.fin1 (by simp) (by simp) (fun e => (List.nodup_cons.1 s.nd).1 (by simp [e])) zq zr
theorem PreSt.fin1b (s : PreSt w W [g, h] p A n c x q B m d y) (zq : Zs W pq Aq nq cq Q) (zr : Zs W pr Ar nr cr R) :
    DivSt w ((((W.setCell ⟨g, 0, none⟩ (.bool pq)).setCell ⟨g, 1, none⟩ (.slice Aq nq cq)).setCell ⟨h, 0, none⟩ (.bool pr)).setCell ⟨h, 1, none⟩ (.slice Ar nr cr)) g h p A n c q B m d y pq Aq nq cq Q pr Ar nr cr R :=
  s.fin1 (by simp) (by simp) (fun e => (List.nodup_cons.1 s.nd).1 (by simp [e])) zq zr
theorem size_set2 (W : World) (b : Nat) (u v : Value) : ((W.setCell ⟨b, 0, none⟩ u).setCell ⟨b, 1, none⟩ v).heap.size = W.heap.size := by simp [World.setCell]
theorem PreSt.fin2a (s : PreSt w W [g] p A n c x q B m d y) (zq : Zs W pq Aq nq cq Q) (zr : Zs W pr Ar nr cr R) :
    DivSt w (((W.setCell ⟨g, 0, none⟩ (.bool pq)).setCell ⟨g, 1, none⟩ (.slice Aq nq cq)).alloc (.cells #[.bool pr, .slice Ar nr cr] 61)) g W.heap.size p A n c q B m d y pq Aq nq cq Q pr Ar nr cr R := by
  have bx := s.al g (by simp)
  have h1 := bx.lt
  have h3 := s.ge g (by simp)
  have k := below_alloc ((W.setCell ⟨g, 0, none⟩ (.bool pq)).setCell ⟨g, 1, none⟩ (.slice Aq nq cq)) (.cells #[.bool pr, .slice Ar nr cr] 61)
  have nb := Box.new ((W.setCell ⟨g, 0, none⟩ (.bool pq)).setCell ⟨g, 1, none⟩ (.slice Aq nq cq)) pr (.slice Ar nr cr) 61
  rw [size_set2] at nb
  exact ⟨(s.ba.far2 (by omega) _ _).below' k, (s.bb.far2 (by omega) _ _).below' k, (s.b1.far2 (by omega) _ _).below' k, (s.b2.far2 (by omega) _ _).below' k, (bx.self2 _ _).below' k, nb, (s.zy.set2 bx.c0 _ _).below k, (zq.set2 bx.c0 _ _).below k, (zr.set2 bx.c0 _ _).below k,
    below_next ((s.hb.setCell (p := ⟨g, 0, none⟩) (by show _ ≤ g; omega) _).setCell (p := ⟨g, 1, none⟩) (by show _ ≤ g; omega) _) k, h3, s.b2.lt, by omega⟩
theorem PreSt.fin2b (s : PreSt w W [h] p A n c x q B m d y) (zq : Zs W pq Aq nq cq Q) (zr : Zs W pr Ar nr cr R) :
    DivSt w (((W.setCell ⟨h, 0, none⟩ (.bool pr)).setCell ⟨h, 1, none⟩ (.slice Ar nr cr)).alloc (.cells #[.bool pq, .slice Aq nq cq] 61)) W.heap.size h p A n c q B m d y pq Aq nq cq Q pr Ar nr cr R := by
  have bx := s.al h (by simp)
  have h1 := bx.lt
  have h3 := s.ge h (by simp)
  have k := below_alloc ((W.setCell ⟨h, 0, none⟩ (.bool pr)).setCell ⟨h, 1, none⟩ (.slice Ar nr cr)) (.cells #[.bool pq, .slice Aq nq cq] 61)
  have nb := Box.new ((W.setCell ⟨h, 0, none⟩ (.bool pr)).setCell ⟨h, 1, none⟩ (.slice Ar nr cr)) pq (.slice Aq nq cq) 61
  rw [size_set2] at nb
  exact ⟨(s.ba.far2 (by omega) _ _).below' k, (s.bb.far2 (by omega) _ _).below' k, (s.b1.far2 (by omega) _ _).below' k, (s.b2.far2 (by omega) _ _).below' k, nb, (bx.self2 _ _).below' k, (s.zy.set2 bx.c0 _ _).below k, (zq.set2 bx.c0 _ _).below k, (zr.set2 bx.c0 _ _).below k,
    below_next ((s.hb.setCell (p := ⟨h, 0, none⟩) (by show _ ≤ h; omega) _).setCell (p := ⟨h, 1, none⟩) (by show _ ≤ h; omega) _) k, s.b2.lt, h3, by omega⟩
theorem PreSt.fin3a (s : PreSt w W L p A n c x q B m d y) (zq : Zs W pq Aq nq cq Q) (zr : Zs W pr Ar nr cr R) :
    DivSt w ((W.alloc (.cells #[.bool pq, .slice Aq nq cq] 61)).alloc (.cells #[.bool pr, .slice Ar nr cr] 61)) W.heap.size (W.heap.size + 1) p A n c q B m d y pq Aq nq cq Q pr Ar nr cr R := by
  have k : Below W.heap.size W ((W.alloc (.cells #[.bool pq, .slice Aq nq cq] 61)).alloc (.cells #[.bool pr, .slice Ar nr cr] 61)) := below_next (below_alloc W (.cells #[.bool pq, .slice Aq nq cq] 61)) (below_alloc _ (.cells #[.bool pr, .slice Ar nr cr] 61))
  have n1 := (Box.new W pq (.slice Aq nq cq) 61).alloc (.cells #[.bool pr, .slice Ar nr cr] 61)
  have n2 := Box.new (W.alloc (.cells #[.bool pq, .slice Aq nq cq] 61)) pr (.slice Ar nr cr) 61
  rw [World.size_alloc] at n2
  exact (s.below k).base n1 n2 s.b2.lt (by have := s.b2.lt; omega) (by omega) (zq.below k) (zr.below k)
theorem PreSt.fin3b (s : PreSt w W L p A n c x q B m d y) (zq : Zs W pq Aq nq cq Q) (zr : Zs W pr Ar nr cr R) :
    DivSt w ((W.alloc (.cells #[.bool pr, .slice Ar nr cr] 61)).alloc (.cells #[.bool pq, .slice Aq nq cq] 61)) (W.heap.size + 1) W.heap.size p A n c q B m d y pq Aq nq cq Q pr Ar nr cr R := by
  have k : Below W.heap.size W ((W.alloc (.cells #[.bool pr, .slice Ar nr cr] 61)).alloc (.cells #[.bool pq, .slice Aq nq cq] 61)) := below_next (below_alloc W (.cells #[.bool pr, .slice Ar nr cr] 61)) (below_alloc _ (.cells #[.bool pq, .slice Aq nq cq] 61))
  have n1 := (Box.new W pr (.slice Ar nr cr) 61).alloc (.cells #[.bool pq, .slice Aq nq cq] 61)
  have n2 := Box.new (W.alloc (.cells #[.bool pr, .slice Ar nr cr] 61)) pq (.slice Aq nq cq) 61
  rw [World.size_alloc] at n2
  exact (s.below k).base n2 n1 (by have := s.b2.lt; omega) s.b2.lt (by omega) (zq.below k) (zr.below k)
theorem ge_ne {a b : Nat} (h : a + 1 + 1 + 1 < b) : b ≠ a ∧ b ≠ a + 1 ∧ b + 1 ≠ a ∧ b + 1 ≠ a + 1 := by omega
theorem DivSt.eqQR (s : DivSt w W g h p A n c q B m d y pq Aq nq cq Q pr Ar nr cr R) {Q' R' : Int} (hQ : Q = Q') (hR : R = R') : DivSt w W g h p A n c q B m d y pq Aq nq cq Q' pr Ar nr cr R' := hQ ▸ hR ▸ s
theorem DivSt.done (s : DivSt w W g h p A n c q B m d y pq Aq nq cq Q pr Ar nr cr R) :
    RetQR w Q R (.returned (.tuple #[.agg #[.bool pq, .slice Aq nq cq], .agg #[.bool pr, .slice Ar nr cr]])) (((((W.setCell ⟨w.heap.size + 1 + 1, 0, none⟩ (.bool pq)).setCell ⟨w.heap.size + 1 + 1, 1, none⟩ (.slice Aq nq cq)).setCell ⟨w.heap.size + 1 + 1 + 1, 0, none⟩ (.bool pr)).setCell ⟨w.heap.size + 1 + 1 + 1, 1, none⟩ (.slice Ar nr cr)).drew) := by
  have h2 := s.b2.far2 (b' := w.heap.size + 1 + 1) (by omega) (.bool pq) (.slice Aq nq cq)
  refine ⟨pq, Aq, nq, cq, pr, Ar, nr, cr, rfl, ((s.zq.set2 s.b1.c0 pq _).set2 h2.c0 pr _).drew, ((s.zr.set2 s.b1.c0 pq _).set2 h2.c0 pr _).drew, ?_⟩
  have k1 : w.heap.size ≤ w.heap.size + 1 + 1 := by omega
  have k2 : w.heap.size ≤ w.heap.size + 1 + 1 + 1 := by omega
  exact ((((s.hb.setCell (p := ⟨w.heap.size + 1 + 1, 0, none⟩) k1 _).setCell (p := ⟨w.heap.size + 1 + 1, 1, none⟩) k1 _).setCell (p := ⟨w.heap.size + 1 + 1 + 1, 0, none⟩) k2 _).setCell (p := ⟨w.heap.size + 1 + 1 + 1, 1, none⟩) k2 _).drew
end

theorem fd_all (x y : Int) (h0 : y ≠ 0) :
    (¬ x < 0 → ¬ y < 0 → ((x.natAbs / y.natAbs : Nat) : Int) = x.fdiv y ∧ ((x.natAbs % y.natAbs : Nat) : Int) = x.fmod y) ∧
    (x < 0 → y < 0 → ((x.natAbs / y.natAbs : Nat) : Int) = x.fdiv y ∧ -((x.natAbs % y.natAbs : Nat) : Int) = x.fmod y) ∧
    (¬ x < 0 → y < 0 → (x.natAbs % y.natAbs = 0 → -((x.natAbs / y.natAbs : Nat) : Int) = x.fdiv y ∧ ((x.natAbs % y.natAbs : Nat) : Int) = x.fmod y) ∧ (x.natAbs % y.natAbs ≠ 0 → -((x.natAbs / y.natAbs : Nat) : Int) - 1 = x.fdiv y ∧ ((x.natAbs % y.natAbs : Nat) : Int) + y = x.fmod y)) ∧
    (x < 0 → ¬ y < 0 → (x.natAbs % y.natAbs = 0 → -((x.natAbs / y.natAbs : Nat) : Int) = x.fdiv y ∧ -((x.natAbs % y.natAbs : Nat) : Int) = x.fmod y) ∧ (x.natAbs % y.natAbs ≠ 0 → -((x.natAbs / y.natAbs : Nat) : Int) - 1 = x.fdiv y ∧ -((x.natAbs % y.natAbs : Nat) : Int) + y = x.fmod y)) := by
  have hd := Nat.div_add_mod x.natAbs y.natAbs
  have hlt : x.natAbs % y.natAbs < y.natAbs := Nat.mod_lt _ (by omega)
  generalize x.natAbs / y.natAbs = Q at *
  generalize x.natAbs % y.natAbs = R at *
  have hd' : (y.natAbs : Int) * (Q : Int) + R = x.natAbs := by rw [← hd, Int.natCast_add, Int.natCast_mul]
  refine ⟨fun hx hy => ?_, fun hx hy => ?_, fun hx hy => ⟨fun hr => ?_, fun hr => ?_⟩, fun hx hy => ⟨fun hr => ?_, fun hr => ?_⟩⟩
  · have hp : 0 < y := by omega
    have e : (y.natAbs : Int) = y := by omega
    rw [e] at hd'
    have := (Int.fdiv_fmod_unique (a := x) (b := y) (r := R) (q := Q) hp).2 ⟨by omega, by omega, by omega⟩
    exact ⟨this.1.symm, this.2.symm⟩
  · have e : (y.natAbs : Int) = -y := by omega
    rw [e, Int.neg_mul] at hd'
    have := (Int.fdiv_fmod_unique' (a := x) (b := y) (r := -(R : Int)) (q := Q) hy).2 ⟨by omega, by omega, by omega⟩
    exact ⟨this.1.symm, this.2.symm⟩
  · have e : (y.natAbs : Int) = -y := by omega
    rw [e, Int.neg_mul] at hd'
    have := (Int.fdiv_fmod_unique' (a := x) (b := y) (r := (R : Int)) (q := -(Q : Int)) hy).2 ⟨by rw [Int.mul_neg]; omega, by omega, by omega⟩
    exact ⟨this.1.symm, this.2.symm⟩
  · have e : (y.natAbs : Int) = -y := by omega
    rw [e, Int.neg_mul] at hd'
    have := (Int.fdiv_fmod_unique' (a := x) (b := y) (r := (R : Int) + y) (q := -(Q : Int) - 1) hy).2 ⟨by rw [Int.mul_sub, Int.mul_neg, Int.mul_one]; omega, by omega, by omega⟩
    exact ⟨this.1.symm, this.2.symm⟩
  · have hp : 0 < y := by omega
    have e : (y.natAbs : Int) = y := by omega
    rw [e] at hd'
    have := (Int.fdiv_fmod_unique (a := x) (b := y) (r := -(R : Int)) (q := -(Q : Int)) hp).2 ⟨by rw [Int.mul_neg]; omega, by omega, by omega⟩
    exact ⟨this.1.symm, this.2.symm⟩
  · have hp : 0 < y := by omega
    have e : (y.natAbs : Int) = y := by omega
    rw [e] at hd'
    have := (Int.fdiv_fmod_unique (a := x) (b := y) (r := -(R : Int) + y) (q := -(Q : Int) - 1) hp).2 ⟨by rw [Int.mul_sub, Int.mul_neg, Int.mul_one]; omega, by omega, by omega⟩
    exact ⟨this.1.symm, this.2.symm⟩

/-- What holds behind the first statement of Div. -/
def DivCut (w : World) (p : Bool) (A : Option Addr) (n c : Nat) (x : Nat) (q : Bool) (B : Option Addr) (m d : Nat) (y : Int) (v6 v7 : Value) (W : World) : Prop :=
  ∃ (g h : Nat) (pq : Bool) (Aq : Option Addr) (nq cq : Nat) (pr : Bool) (Ar : Option Addr) (nr cr : Nat), v6 = .pointer (some ⟨g, 0, none⟩) ∧ v7 = .pointer (some ⟨h, 0, none⟩) ∧
    DivSt w W g h p A n c q B m d y pq Aq nq cq ((x / y.natAbs : Nat) : Int) pr Ar nr cr ((x % y.natAbs : Nat) : Int)

set_option maxRecDepth 100000 in
set_option maxHeartbeats 8000000 in
theorem div_any (p q : Bool) (A B : Option Addr) (n m c d : Nat) (x y : Int) (w : World) (hx : Zs w p A n c x) (hy : Zs w q B m d y) (hn : n ≤ 3000) (hm : m ≤ 3000) (h0 : y ≠ 0) :
    Calls Tryz.prog 44 #[.agg #[.bool p, .slice A n c], .agg #[.bool q, .slice B m d]] w (RetQR w (x.fdiv y) (x.fmod y)) := by
  have hxl := hx.len
  have hyl := hy.len
  have HXL := Lib.hid hxl
  have HYL := Lib.hid hyl
  clear hxl hyl
  go_enter Tryz.func44, Tryz.ntmps44
  go_upto_region 1 with fail
  have st : PreSt w ((((w.alloc (.cells #[.bool p, .slice A n c] 61)).alloc (.cells #[.bool q, .slice B m d] 61)).alloc (.cells #[.bool false, .slice none 0 0] 61)).alloc (.cells #[.bool false, .slice none 0 0] 61)) [] p A n c x q B m d y := by
    obtain ⟨b1, b2, b3, hb0⟩ := boxes3 w p q false (.slice A n c) (.slice B m d) (.slice none 0 0) 61
    have b4 := Box.new (((w.alloc (.cells #[.bool p, .slice A n c] 61)).alloc (.cells #[.bool q, .slice B m d] 61)).alloc (.cells #[.bool false, .slice none 0 0] 61)) false (.slice none 0 0) 61
    simp only [World.size_alloc] at b4
    have hb := hb0.alloc hb0.size (.cells #[.bool false, .slice none 0 0] 61)
    exact ⟨b1.alloc _, b2.alloc _, b3.alloc _, b4, hx.below hb, hy.below hb, hb, (fun b h => by cases h), (fun b h => by cases h), List.nodup_nil⟩
  generalize (((w.alloc (.cells #[.bool p, .slice A n c] 61)).alloc (.cells #[.bool q, .slice B m d] 61)).alloc (.cells #[.bool false, .slice none 0 0] 61)).alloc (.cells #[.bool false, .slice none 0 0] 61) = W at *
  go_cut [6, 7] (fun v6 v7 wx => DivCut w p A n c x.natAbs q B m d y v6 v7 wx)
  case first =>
    obtain ⟨_, a0, a1, _, _⟩ := id st.ba
    obtain ⟨_, c0, c1, _, _⟩ := id st.bb
    obtain ⟨gn1, gn2, gn3, gn4⟩ := ge_ne st.b2.lt
    go_region_held3 (fun w' => w'.cell? ⟨w.heap.size, 0, none⟩ = some (.bool p) ∧ w'.cell? ⟨w.heap.size, 1, none⟩ = some (.slice A n c) ∧ w'.cell? ⟨w.heap.size + 1, 0, none⟩ = some (.bool q) ∧ w'.cell? ⟨w.heap.size + 1, 1, none⟩ = some (.slice B m d)) (first | (with_reducible exact ⟨st.ba.c0, st.ba.c1, st.bb.c0, st.bb.c1⟩) | (with_reducible exact ⟨st.alloc1.ba.c0, st.alloc1.ba.c1, st.alloc1.bb.c0, st.alloc1.bb.c1⟩) | (with_reducible exact ⟨st.alloc2.ba.c0, st.alloc2.ba.c1, st.alloc2.bb.c0, st.alloc2.bb.c1⟩) | (with_reducible exact ⟨st.drew.ba.c0, st.drew.ba.c1, st.drew.bb.c0, st.drew.bb.c1⟩) | (with_reducible exact ⟨st.alloc1.drew.ba.c0, st.alloc1.drew.ba.c1, st.alloc1.drew.bb.c0, st.alloc1.drew.bb.c1⟩) | (with_reducible exact ⟨st.alloc2.drew.ba.c0, st.alloc2.drew.ba.c1, st.alloc2.drew.bb.c0, st.alloc2.drew.bb.c1⟩) | go_keep)
      (first
        | (go_at_call_of 82 (Value.slice A n c); refine (abs_any p A n c x _ (by with_reducible first | exact st.zx | exact st.zx.below (below_alloc _ _) | exact (st.zx.below (below_alloc _ _)).below (below_alloc _ _) | exact st.zx.drew | exact (st.zx.below (below_alloc _ _)).drew | exact ((st.zx.below (below_alloc _ _)).below (below_alloc _ _)).drew) (by omega)).mono ?_; rintro e w1 ⟨r1, C1, k1, f1, rfl, z1, hb⟩
           have hr1 : r1 = false := by rw [z1.sign]; exact decide_eq_false (by omega)
           subst hr1
           have l1 := z1.len
           rw [Int.natAbs_natCast, HXL.out] at l1
           have L1 := Lib.hid l1
           clear l1
           with_reducible (first | replace st := st.below hb | replace st := st.alloc1.below hb | replace st := st.alloc2.below hb | replace st := st.drew.below hb | replace st := st.alloc1.drew.below hb | replace st := st.alloc2.drew.below hb)
           clear hb
           obtain ⟨_, a2, a3, _, _⟩ := id st.ba
           obtain ⟨_, a4, a5, _, _⟩ := id st.bb
           obtain ⟨gn1, gn2, gn3, gn4⟩ := ge_ne st.b2.lt
           try obtain ⟨gm1, gm2, gm3, gm4⟩ := ge_ne (st.ge _ (List.mem_cons_self ..))
           try obtain ⟨gk1, gk2, gk3, gk4⟩ := ge_ne (st.ge _ (List.mem_cons_of_mem _ (List.mem_cons_self ..)))
           try obtain ⟨_, x0, x1, x2, x3⟩ := st.al _ (List.mem_cons_self ..)
           try obtain ⟨_, x4, x5, x6, x7⟩ := st.al _ (List.mem_cons_of_mem _ (List.mem_cons_self ..))
          )
        | (go_at_call_of 82 (Value.slice B m d); refine (abs_any q B m d y _ (by with_reducible first | exact st.zy | exact st.zy.below (below_alloc _ _) | exact (st.zy.below (below_alloc _ _)).below (below_alloc _ _) | exact st.zy.drew | exact (st.zy.below (below_alloc _ _)).drew | exact ((st.zy.below (below_alloc _ _)).below (below_alloc _ _)).drew) (by omega)).mono ?_; rintro e w1 ⟨r2, C2, k2, f2, rfl, z2, hb⟩
           have hr2 : r2 = false := by rw [z2.sign]; exact decide_eq_false (by omega)
           subst hr2
           have l2 := z2.len
           rw [Int.natAbs_natCast, HYL.out] at l2
           have L2 := Lib.hid l2
           clear l2
           replace z1 : Zs w1 false C1 k1 f1 ((x.natAbs : Nat) : Int) := by with_reducible first | exact z1.below hb | exact (z1.below (below_alloc _ _)).below hb | exact ((z1.below (below_alloc _ _)).below (below_alloc _ _)).below hb
           with_reducible (first | replace st := st.below hb | replace st := st.alloc1.below hb | replace st := st.alloc2.below hb | replace st := st.drew.below hb | replace st := st.alloc1.drew.below hb | replace st := st.alloc2.drew.below hb)
           clear hb
           obtain ⟨_, a2, a3, _, _⟩ := id st.ba
           obtain ⟨_, a4, a5, _, _⟩ := id st.bb
           obtain ⟨gn1, gn2, gn3, gn4⟩ := ge_ne st.b2.lt
           try obtain ⟨gm1, gm2, gm3, gm4⟩ := ge_ne (st.ge _ (List.mem_cons_self ..))
           try obtain ⟨gk1, gk2, gk3, gk4⟩ := ge_ne (st.ge _ (List.mem_cons_of_mem _ (List.mem_cons_self ..)))
           try obtain ⟨_, x0, x1, x2, x3⟩ := st.al _ (List.mem_cons_self ..)
           try obtain ⟨_, x4, x5, x6, x7⟩ := st.al _ (List.mem_cons_of_mem _ (List.mem_cons_self ..))
          )
        | (go_at_call 81; refine (long_any C1 C2 k1 k2 f1 f2 x.natAbs y.natAbs _ (by with_reducible first | exact z1 | exact z1.below (below_alloc _ _) | exact (z1.below (below_alloc _ _)).below (below_alloc _ _)) (by with_reducible first | exact z2 | exact z2.below (below_alloc _ _) | exact (z2.below (below_alloc _ _)).below (below_alloc _ _)) (by have := L1.out; omega) (by have := L2.out; omega) (by omega)).mono ?_; rintro e w1 ⟨r3, C3, k3, f3, r4, C4, k4, f4, rfl, z3, z4, hb⟩
           with_reducible (first | replace st := st.below hb | replace st := st.alloc1.below hb | replace st := st.alloc2.below hb | replace st := st.drew.below hb | replace st := st.alloc1.drew.below hb | replace st := st.alloc2.drew.below hb)
           clear hb
           obtain ⟨_, a2, a3, _, _⟩ := id st.ba
           obtain ⟨_, a4, a5, _, _⟩ := id st.bb
           obtain ⟨gn1, gn2, gn3, gn4⟩ := ge_ne st.b2.lt
           try obtain ⟨gm1, gm2, gm3, gm4⟩ := ge_ne (st.ge _ (List.mem_cons_self ..))
           try obtain ⟨gk1, gk2, gk3, gk4⟩ := ge_ne (st.ge _ (List.mem_cons_of_mem _ (List.mem_cons_self ..)))
           try obtain ⟨_, x0, x1, x2, x3⟩ := st.al _ (List.mem_cons_self ..)
           try obtain ⟨_, x4, x5, x6, x7⟩ := st.al _ (List.mem_cons_of_mem _ (List.mem_cons_self ..))
          ))
    all_goals
      go_wp2_with fail
      go_meet
      refine ⟨_, _, r3, C3, k3, f3, r4, C4, k4, f4, rfl, rfl, ?_⟩
      with_reducible first | exact st.fin1a z3 z4 | exact st.fin1b z3 z4 | exact st.fin2a z3 z4 | exact st.fin2b z3 z4 | exact st.fin3a z3 z4 | exact st.fin3b z3 z4
  case rest =>
    obtain ⟨g, h, pq, Aq, nq, cq, pr, Ar, nr, cr, rfl, rfl, s0⟩ := hcut
    have hgg := s0.gg
    have hgh := s0.gh
    have hgn := s0.ne
    have hgn' := Ne.symm hgn
    obtain ⟨gn1, gn2, gn3, gn4⟩ := ge_ne hgg
    obtain ⟨hn1, hn2, hn3, hn4⟩ := ge_ne hgh
    have hxs := lt_of_digs_len (n := x.natAbs) (k := n) (by rw [HXL.out]; exact Nat.le_refl _)
    have hys := lt_of_digs_len (n := y.natAbs) (k := m) (by rw [HYL.out]; exact Nat.le_refl _)
    have lq := s0.zq.small (k := n) (by rw [Int.natAbs_natCast]; exact Nat.lt_of_le_of_lt (Nat.div_le_self _ _) hxs)
    have lr := s0.zr.small (k := m) (by rw [Int.natAbs_natCast]; exact Nat.lt_trans (Nat.mod_lt _ (by omega)) hys)
    have lq' := s0.zq.len
    rw [Int.natAbs_natCast] at lq'
    have lr' := s0.zr.len
    rw [Int.natAbs_natCast] at lr'
    have LQ := Lib.hid lq'
    have LR := Lib.hid lr'
    have ONE := Lib.hid (show ((1 : Int)).natAbs < 65536 ^ 1 by decide)
    have sx := hx.sign
    have sy := hy.sign
    obtain ⟨F1, F2, F3, F4⟩ := fd_all x y h0
    clear hxs hys lq' lr' hx hy st
    have hcs : x.natAbs % y.natAbs = 0 ∨ x.natAbs % y.natAbs ≠ 0 := by omega
    cases p <;> cases q <;> simp only [eq_comm (a := true), eq_comm (a := false), decide_eq_true_eq, decide_eq_false_iff_not] at sx sy
    · rcases hcs with hr0 | hr0
      · -- p = false, q = false, R0 = 0
        obtain ⟨fq, fr⟩ := F1 sx sy
        have FQ := Lib.hid fq
        have FR := Lib.hid fr
        have HR0 := Lib.hid hr0
        clear fq fr hr0 F1 F2 F3 F4 sx sy h0
        obtain ⟨_, a0, a1, _, _⟩ := id s0.ba
        obtain ⟨_, b0, b1, _, _⟩ := id s0.bb
        obtain ⟨_, q0, q1, q2, q3⟩ := id s0.bq
        obtain ⟨_, r0, r1, r2, r3⟩ := id s0.br
        have hnr : nr = 0 := by
          rw [← s0.zr.len]
          simp only [HR0.out]
          simp [digs_zero]
        subst hnr
        go_wp2_with fail
        clear a0 a1 b0 b1 q0 q1 q2 q3 r0 r1 r2 r3
        obtain ⟨_, q0, q1, q2, q3⟩ := id s0.bq
        obtain ⟨_, r0, r1, r2, r3⟩ := id s0.br
        obtain ⟨_, d0, d1, d2, d3⟩ := id s0.b1
        obtain ⟨_, e0, e1, e2, e3⟩ := id s0.b2
        go_region
        go_wp2
        exact bodyPost_ret (v := .tuple #[.agg #[.bool pq, .slice Aq nq cq], .agg #[.bool pr, .slice Ar 0 cr]]) (by simp [results, Tryz.results44, go_sem, d0, d1, e0, e1]) rfl (s0.eqQR FQ.out FR.out).done
      · -- p = false, q = false, R0 ≠ 0
        obtain ⟨fq, fr⟩ := F1 sx sy
        have FQ := Lib.hid fq
        have FR := Lib.hid fr
        have HR0 := Lib.hid hr0
        clear fq fr hr0 F1 F2 F3 F4 sx sy h0
        obtain ⟨_, a0, a1, _, _⟩ := id s0.ba
        obtain ⟨_, b0, b1, _, _⟩ := id s0.bb
        obtain ⟨_, q0, q1, q2, q3⟩ := id s0.bq
        obtain ⟨_, r0, r1, r2, r3⟩ := id s0.br
        have hnr : 0 < nr := by
          rw [← s0.zr.len]
          rcases Nat.eq_zero_or_pos (digs ((x.natAbs % y.natAbs : Nat) : Int).natAbs).length with h1 | h1
          · have := digs_nil.1 (List.eq_nil_of_length_eq_zero h1)
            have := HR0.out
            omega
          · exact h1
        have hpr : pr = false := by
          rw [s0.zr.sign]
          have := HR0.out
          simp
          omega
        subst hpr
        go_wp2_with fail
        clear a0 a1 b0 b1 q0 q1 q2 q3 r0 r1 r2 r3
        obtain ⟨_, q0, q1, q2, q3⟩ := id s0.bq
        obtain ⟨_, r0, r1, r2, r3⟩ := id s0.br
        obtain ⟨_, d0, d1, d2, d3⟩ := id s0.b1
        obtain ⟨_, e0, e1, e2, e3⟩ := id s0.b2
        go_region
        go_wp2
        exact bodyPost_ret (v := .tuple #[.agg #[.bool pq, .slice Aq nq cq], .agg #[.bool false, .slice Ar nr cr]]) (by simp [results, Tryz.results44, go_sem, d0, d1, e0, e1]) rfl (s0.eqQR FQ.out FR.out).done
    · rcases hcs with hr0 | hr0
      · -- p = false, q = true, R0 = 0
        obtain ⟨fq, fr⟩ := (F3 sx sy).1 hr0
        have FQ := Lib.hid fq
        have FR := Lib.hid fr
        have HR0 := Lib.hid hr0
        clear fq fr hr0 F1 F2 F3 F4 sx sy h0
        obtain ⟨_, a0, a1, _, _⟩ := id s0.ba
        obtain ⟨_, b0, b1, _, _⟩ := id s0.bb
        obtain ⟨_, q0, q1, q2, q3⟩ := id s0.bq
        obtain ⟨_, r0, r1, r2, r3⟩ := id s0.br
        go_wp2_with fail
        refine (neg_any pq Aq nq cq _ _ s0.zq (by omega)).mono ?_
        rintro e w1 ⟨p1, A1, n1, c1, rfl, z1, k1⟩
        have l1 := z1.len
        rw [Int.natAbs_neg, Int.natAbs_natCast] at l1
        have L1 := Lib.hid l1
        clear l1
        have s1 := s0.below k1
        have s2 := s1.setQ z1
        clear a0 a1 b0 b1 q0 q1 q2 q3 r0 r1 r2 r3
        obtain ⟨_, a0, a1, _, _⟩ := id s1.ba
        obtain ⟨_, b0, b1, _, _⟩ := id s1.bb
        obtain ⟨_, q0, q1, q2, q3⟩ := id s1.bq
        obtain ⟨_, r0, r1, r2, r3⟩ := id s1.br
        clear k1 s0
        have hnr : nr = 0 := by
          rw [← s2.zr.len]
          simp only [HR0.out]
          simp [digs_zero]
        subst hnr
        obtain ⟨_, d0, d1, d2, d3⟩ := id s1.b1
        obtain ⟨_, e0, e1, e2, e3⟩ := id s1.b2
        go_wp2_with fail
        clear a0 a1 b0 b1 q0 q1 q2 q3 r0 r1 r2 r3
        clear d0 d1 d2 d3 e0 e1 e2 e3 z1 s1
        generalize (w1.setCell ⟨g, 0, none⟩ (.bool p1)).setCell ⟨g, 1, none⟩ (.slice A1 n1 c1) = w5 at *
        obtain ⟨_, q0, q1, q2, q3⟩ := id s2.bq
        obtain ⟨_, r0, r1, r2, r3⟩ := id s2.br
        obtain ⟨_, d0, d1, d2, d3⟩ := id s2.b1
        obtain ⟨_, e0, e1, e2, e3⟩ := id s2.b2
        go_region
        go_wp2
        exact bodyPost_ret (v := .tuple #[.agg #[.bool p1, .slice A1 n1 c1], .agg #[.bool pr, .slice Ar 0 cr]]) (by simp [results, Tryz.results44, go_sem, d0, d1, e0, e1]) rfl (s2.eqQR FQ.out FR.out).done
      · -- p = false, q = true, R0 ≠ 0
        obtain ⟨fq, fr⟩ := (F3 sx sy).2 hr0
        have FQ := Lib.hid fq
        have FR := Lib.hid fr
        have HR0 := Lib.hid hr0
        clear fq fr hr0 F1 F2 F3 F4 sx sy h0
        obtain ⟨_, a0, a1, _, _⟩ := id s0.ba
        obtain ⟨_, b0, b1, _, _⟩ := id s0.bb
        obtain ⟨_, q0, q1, q2, q3⟩ := id s0.bq
        obtain ⟨_, r0, r1, r2, r3⟩ := id s0.br
        go_wp2_with fail
        refine (neg_any pq Aq nq cq _ _ s0.zq (by omega)).mono ?_
        rintro e w1 ⟨p1, A1, n1, c1, rfl, z1, k1⟩
        have l1 := z1.len
        rw [Int.natAbs_neg, Int.natAbs_natCast] at l1
        have L1 := Lib.hid l1
        clear l1
        have s1 := s0.below k1
        have s2 := s1.setQ z1
        clear a0 a1 b0 b1 q0 q1 q2 q3 r0 r1 r2 r3
        obtain ⟨_, a0, a1, _, _⟩ := id s1.ba
        obtain ⟨_, b0, b1, _, _⟩ := id s1.bb
        obtain ⟨_, q0, q1, q2, q3⟩ := id s1.bq
        obtain ⟨_, r0, r1, r2, r3⟩ := id s1.br
        clear k1 s0
        have hnr : 0 < nr := by
          rw [← s2.zr.len]
          rcases Nat.eq_zero_or_pos (digs ((x.natAbs % y.natAbs : Nat) : Int).natAbs).length with h1 | h1
          · have := digs_nil.1 (List.eq_nil_of_length_eq_zero h1)
            have := HR0.out
            omega
          · exact h1
        have hpr : pr = false := by
          rw [s2.zr.sign]
          have := HR0.out
          simp
          omega
        subst hpr
        go_wp2_with fail
        clear a0 a1 b0 b1 q0 q1 q2 q3 r0 r1 r2 r3
        clear z1 s1
        generalize (w1.setCell ⟨g, 0, none⟩ (.bool p1)).setCell ⟨g, 1, none⟩ (.slice A1 n1 c1) = w5 at *
        obtain ⟨_, a0, a1, _, _⟩ := id s2.ba
        obtain ⟨_, b0, b1, _, _⟩ := id s2.bb
        obtain ⟨_, q0, q1, q2, q3⟩ := id s2.bq
        obtain ⟨_, r0, r1, r2, r3⟩ := id s2.br
        have s5d := s2.below (Below.refl _ _).drew
        go_region_with (first
          | (go_at_call 47; refine (ofu_int 1 (by decide) (by decide) _).mono ?_; rintro e w6 ⟨p6, A6, n6, c6, rfl, z6, k6⟩
             have l6 := z6.small ONE.out
             have s6 := s5d.below k6
             obtain ⟨_, q4, q5, q6, q7⟩ := id s6.bq)
          | (go_at_call 49; refine (sub_any p1 p6 A1 A6 n1 n6 c1 c6 _ _ _ s6.zq z6 (by have := L1.out; have := LQ.out; omega) (by omega)).mono ?_; rintro e w7 ⟨p7, A7, n7, c7, rfl, z7, k7⟩
             have s7 := s6.below k7
             have s8 := s7.setQ z7
             obtain ⟨_, qa, qb, qc, qd⟩ := id s7.bq
             obtain ⟨_, ba, bb, _, _⟩ := id s7.bb
             obtain ⟨_, ra, rb, rc, rd⟩ := id s7.br))
        all_goals
          go_wp2_with fail
          clear qa qb qc qd ba bb ra rb rc rd
          clear z7 s7
          generalize (w7.setCell ⟨g, 0, none⟩ (.bool p7)).setCell ⟨g, 1, none⟩ (.slice A7 n7 c7) = w8 at *
          refine (add_any false true Ar B nr m cr d _ _ _ s8.zr s8.zy (by have := LR.out; first | omega | (have := L3.out; omega)) (by omega)).mono ?_
          rintro e w9 ⟨p9, A9, n9, c9, rfl, z9, k9⟩
          have s9 := s8.below k9
          have sa := s9.setR z9
          obtain ⟨_, q0, q1, q2, q3⟩ := id s9.bq
          obtain ⟨_, r0, r1, r2, r3⟩ := id s9.br
          obtain ⟨_, d0, d1, d2, d3⟩ := id s9.b1
          obtain ⟨_, e0, e1, e2, e3⟩ := id s9.b2
          go_wp2_with fail
          clear q0 q1 q2 q3 r0 r1 r2 r3 d0 d1 d2 d3 e0 e1 e2 e3 z9 s9
          generalize (w9.setCell ⟨h, 0, none⟩ (.bool p9)).setCell ⟨h, 1, none⟩ (.slice A9 n9 c9) = w10 at *
          obtain ⟨_, q0, q1, q2, q3⟩ := id sa.bq
          obtain ⟨_, r0, r1, r2, r3⟩ := id sa.br
          obtain ⟨_, d0, d1, d2, d3⟩ := id sa.b1
          obtain ⟨_, e0, e1, e2, e3⟩ := id sa.b2
          go_region
          go_wp2
          exact bodyPost_ret (v := .tuple #[.agg #[.bool p7, .slice A7 n7 c7], .agg #[.bool p9, .slice A9 n9 c9]]) (by simp [results, Tryz.results44, go_sem, d0, d1, e0, e1]) rfl (sa.eqQR FQ.out FR.out).done
    · rcases hcs with hr0 | hr0
      · -- p = true, q = false, R0 = 0
        obtain ⟨fq, fr⟩ := (F4 sx sy).1 hr0
        have FQ := Lib.hid fq
        have FR := Lib.hid fr
        have HR0 := Lib.hid hr0
        clear fq fr hr0 F1 F2 F3 F4 sx sy h0
        obtain ⟨_, a0, a1, _, _⟩ := id s0.ba
        obtain ⟨_, b0, b1, _, _⟩ := id s0.bb
        obtain ⟨_, q0, q1, q2, q3⟩ := id s0.bq
        obtain ⟨_, r0, r1, r2, r3⟩ := id s0.br
        go_wp2_with fail
        refine (neg_any pq Aq nq cq _ _ s0.zq (by omega)).mono ?_
        rintro e w1 ⟨p1, A1, n1, c1, rfl, z1, k1⟩
        have l1 := z1.len
        rw [Int.natAbs_neg, Int.natAbs_natCast] at l1
        have L1 := Lib.hid l1
        clear l1
        have s1 := s0.below k1
        have s2 := s1.setQ z1
        clear a0 a1 b0 b1 q0 q1 q2 q3 r0 r1 r2 r3
        obtain ⟨_, a0, a1, _, _⟩ := id s1.ba
        obtain ⟨_, b0, b1, _, _⟩ := id s1.bb
        obtain ⟨_, q0, q1, q2, q3⟩ := id s1.bq
        obtain ⟨_, r0, r1, r2, r3⟩ := id s1.br
        clear k1 s0
        go_wp2_with fail
        clear a0 a1 b0 b1 q0 q1 q2 q3 r0 r1 r2 r3
        clear z1 s1
        generalize (w1.setCell ⟨g, 0, none⟩ (.bool p1)).setCell ⟨g, 1, none⟩ (.slice A1 n1 c1) = w2 at *
        refine (neg_any pr Ar nr cr _ _ s2.zr (by omega)).mono ?_
        rintro e w3 ⟨p3, A3, n3, c3, rfl, z3, k3⟩
        have l3 := z3.len
        rw [Int.natAbs_neg, Int.natAbs_natCast] at l3
        have L3 := Lib.hid l3
        clear l3
        have s3 := s2.below k3
        have s4 := s3.setR z3
        obtain ⟨_, a0, a1, _, _⟩ := id s3.ba
        obtain ⟨_, b0, b1, _, _⟩ := id s3.bb
        obtain ⟨_, q0, q1, q2, q3⟩ := id s3.bq
        obtain ⟨_, r0, r1, r2, r3⟩ := id s3.br
        clear k3 s2
        have hnr : n3 = 0 := by
          rw [← s4.zr.len]
          simp only [HR0.out]
          simp [digs_zero]
        subst hnr
        obtain ⟨_, d0, d1, d2, d3⟩ := id s3.b1
        obtain ⟨_, e0, e1, e2, e3⟩ := id s3.b2
        go_wp2_with fail
        clear a0 a1 b0 b1 q0 q1 q2 q3 r0 r1 r2 r3
        clear d0 d1 d2 d3 e0 e1 e2 e3 z3 s3
        generalize (w3.setCell ⟨h, 0, none⟩ (.bool p3)).setCell ⟨h, 1, none⟩ (.slice A3 0 c3) = w5 at *
        obtain ⟨_, q0, q1, q2, q3⟩ := id s4.bq
        obtain ⟨_, r0, r1, r2, r3⟩ := id s4.br
        obtain ⟨_, d0, d1, d2, d3⟩ := id s4.b1
        obtain ⟨_, e0, e1, e2, e3⟩ := id s4.b2
        go_region
        go_wp2
        exact bodyPost_ret (v := .tuple #[.agg #[.bool p1, .slice A1 n1 c1], .agg #[.bool p3, .slice A3 0 c3]]) (by simp [results, Tryz.results44, go_sem, d0, d1, e0, e1]) rfl (s4.eqQR FQ.out FR.out).done
      · -- p = true, q = false, R0 ≠ 0
        obtain ⟨fq, fr⟩ := (F4 sx sy).2 hr0
        have FQ := Lib.hid fq
        have FR := Lib.hid fr
        have HR0 := Lib.hid hr0
        clear fq fr hr0 F1 F2 F3 F4 sx sy h0
        obtain ⟨_, a0, a1, _, _⟩ := id s0.ba
        obtain ⟨_, b0, b1, _, _⟩ := id s0.bb
        obtain ⟨_, q0, q1, q2, q3⟩ := id s0.bq
        obtain ⟨_, r0, r1, r2, r3⟩ := id s0.br
        go_wp2_with fail
        refine (neg_any pq Aq nq cq _ _ s0.zq (by omega)).mono ?_
        rintro e w1 ⟨p1, A1, n1, c1, rfl, z1, k1⟩
        have l1 := z1.len
        rw [Int.natAbs_neg, Int.natAbs_natCast] at l1
        have L1 := Lib.hid l1
        clear l1
        have s1 := s0.below k1
        have s2 := s1.setQ z1
        clear a0 a1 b0 b1 q0 q1 q2 q3 r0 r1 r2 r3
        obtain ⟨_, a0, a1, _, _⟩ := id s1.ba
        obtain ⟨_, b0, b1, _, _⟩ := id s1.bb
        obtain ⟨_, q0, q1, q2, q3⟩ := id s1.bq
        obtain ⟨_, r0, r1, r2, r3⟩ := id s1.br
        clear k1 s0
        go_wp2_with fail
        clear a0 a1 b0 b1 q0 q1 q2 q3 r0 r1 r2 r3
        clear z1 s1
        generalize (w1.setCell ⟨g, 0, none⟩ (.bool p1)).setCell ⟨g, 1, none⟩ (.slice A1 n1 c1) = w2 at *
        refine (neg_any pr Ar nr cr _ _ s2.zr (by omega)).mono ?_
        rintro e w3 ⟨p3, A3, n3, c3, rfl, z3, k3⟩
        have l3 := z3.len
        rw [Int.natAbs_neg, Int.natAbs_natCast] at l3
        have L3 := Lib.hid l3
        clear l3
        have s3 := s2.below k3
        have s4 := s3.setR z3
        obtain ⟨_, a0, a1, _, _⟩ := id s3.ba
        obtain ⟨_, b0, b1, _, _⟩ := id s3.bb
        obtain ⟨_, q0, q1, q2, q3⟩ := id s3.bq
        obtain ⟨_, r0, r1, r2, r3⟩ := id s3.br
        clear k3 s2
        have hnr : 0 < n3 := by
          rw [← s4.zr.len]
          rcases Nat.eq_zero_or_pos (digs (-((x.natAbs % y.natAbs : Nat) : Int)).natAbs).length with h1 | h1
          · have := digs_nil.1 (List.eq_nil_of_length_eq_zero h1)
            have := HR0.out
            omega
          · exact h1
        have hpr : p3 = true := by
          rw [s4.zr.sign]
          have := HR0.out
          simp
          omega
        subst hpr
        go_wp2_with fail
        clear a0 a1 b0 b1 q0 q1 q2 q3 r0 r1 r2 r3
        clear z3 s3
        generalize (w3.setCell ⟨h, 0, none⟩ (.bool true)).setCell ⟨h, 1, none⟩ (.slice A3 n3 c3) = w5 at *
        obtain ⟨_, a0, a1, _, _⟩ := id s4.ba
        obtain ⟨_, b0, b1, _, _⟩ := id s4.bb
        obtain ⟨_, q0, q1, q2, q3⟩ := id s4.bq
        obtain ⟨_, r0, r1, r2, r3⟩ := id s4.br
        have s5d := s4.below (Below.refl _ _).drew
        go_region_with (first
          | (go_at_call 47; refine (ofu_int 1 (by decide) (by decide) _).mono ?_; rintro e w6 ⟨p6, A6, n6, c6, rfl, z6, k6⟩
             have l6 := z6.small ONE.out
             have s6 := s5d.below k6
             obtain ⟨_, q4, q5, q6, q7⟩ := id s6.bq)
          | (go_at_call 49; refine (sub_any p1 p6 A1 A6 n1 n6 c1 c6 _ _ _ s6.zq z6 (by have := L1.out; have := LQ.out; omega) (by omega)).mono ?_; rintro e w7 ⟨p7, A7, n7, c7, rfl, z7, k7⟩
             have s7 := s6.below k7
             have s8 := s7.setQ z7
             obtain ⟨_, qa, qb, qc, qd⟩ := id s7.bq
             obtain ⟨_, ba, bb, _, _⟩ := id s7.bb
             obtain ⟨_, ra, rb, rc, rd⟩ := id s7.br))
        all_goals
          go_wp2_with fail
          clear qa qb qc qd ba bb ra rb rc rd
          clear z7 s7
          generalize (w7.setCell ⟨g, 0, none⟩ (.bool p7)).setCell ⟨g, 1, none⟩ (.slice A7 n7 c7) = w8 at *
          refine (add_any true false A3 B n3 m c3 d _ _ _ s8.zr s8.zy (by have := LR.out; first | omega | (have := L3.out; omega)) (by omega)).mono ?_
          rintro e w9 ⟨p9, A9, n9, c9, rfl, z9, k9⟩
          have s9 := s8.below k9
          have sa := s9.setR z9
          obtain ⟨_, q0, q1, q2, q3⟩ := id s9.bq
          obtain ⟨_, r0, r1, r2, r3⟩ := id s9.br
          obtain ⟨_, d0, d1, d2, d3⟩ := id s9.b1
          obtain ⟨_, e0, e1, e2, e3⟩ := id s9.b2
          go_wp2_with fail
          clear q0 q1 q2 q3 r0 r1 r2 r3 d0 d1 d2 d3 e0 e1 e2 e3 z9 s9
          generalize (w9.setCell ⟨h, 0, none⟩ (.bool p9)).setCell ⟨h, 1, none⟩ (.slice A9 n9 c9) = w10 at *
          obtain ⟨_, q0, q1, q2, q3⟩ := id sa.bq
          obtain ⟨_, r0, r1, r2, r3⟩ := id sa.br
          obtain ⟨_, d0, d1, d2, d3⟩ := id sa.b1
          obtain ⟨_, e0, e1, e2, e3⟩ := id sa.b2
          go_region
          go_wp2
          exact bodyPost_ret (v := .tuple #[.agg #[.bool p7, .slice A7 n7 c7], .agg #[.bool p9, .slice A9 n9 c9]]) (by simp [results, Tryz.results44, go_sem, d0, d1, e0, e1]) rfl (sa.eqQR FQ.out FR.out).done
    · rcases hcs with hr0 | hr0
      · -- p = true, q = true, R0 = 0
        obtain ⟨fq, fr⟩ := F2 sx sy
        have FQ := Lib.hid fq
        have FR := Lib.hid fr
        have HR0 := Lib.hid hr0
        clear fq fr hr0 F1 F2 F3 F4 sx sy h0
        obtain ⟨_, a0, a1, _, _⟩ := id s0.ba
        obtain ⟨_, b0, b1, _, _⟩ := id s0.bb
        obtain ⟨_, q0, q1, q2, q3⟩ := id s0.bq
        obtain ⟨_, r0, r1, r2, r3⟩ := id s0.br
        go_wp2_with fail
        refine (neg_any pr Ar nr cr _ _ s0.zr (by omega)).mono ?_
        rintro e w3 ⟨p3, A3, n3, c3, rfl, z3, k3⟩
        have l3 := z3.len
        rw [Int.natAbs_neg, Int.natAbs_natCast] at l3
        have L3 := Lib.hid l3
        clear l3
        have s3 := s0.below k3
        have s4 := s3.setR z3
        clear a0 a1 b0 b1 q0 q1 q2 q3 r0 r1 r2 r3
        obtain ⟨_, a0, a1, _, _⟩ := id s3.ba
        obtain ⟨_, b0, b1, _, _⟩ := id s3.bb
        obtain ⟨_, q0, q1, q2, q3⟩ := id s3.bq
        obtain ⟨_, r0, r1, r2, r3⟩ := id s3.br
        clear k3 s0
        have hnr : n3 = 0 := by
          rw [← s4.zr.len]
          simp only [HR0.out]
          simp [digs_zero]
        subst hnr
        obtain ⟨_, d0, d1, d2, d3⟩ := id s3.b1
        obtain ⟨_, e0, e1, e2, e3⟩ := id s3.b2
        go_wp2_with fail
        clear a0 a1 b0 b1 q0 q1 q2 q3 r0 r1 r2 r3
        clear d0 d1 d2 d3 e0 e1 e2 e3 z3 s3
        generalize (w3.setCell ⟨h, 0, none⟩ (.bool p3)).setCell ⟨h, 1, none⟩ (.slice A3 0 c3) = w5 at *
        obtain ⟨_, q0, q1, q2, q3⟩ := id s4.bq
        obtain ⟨_, r0, r1, r2, r3⟩ := id s4.br
        obtain ⟨_, d0, d1, d2, d3⟩ := id s4.b1
        obtain ⟨_, e0, e1, e2, e3⟩ := id s4.b2
        go_region
        go_wp2
        exact bodyPost_ret (v := .tuple #[.agg #[.bool pq, .slice Aq nq cq], .agg #[.bool p3, .slice A3 0 c3]]) (by simp [results, Tryz.results44, go_sem, d0, d1, e0, e1]) rfl (s4.eqQR FQ.out FR.out).done
      · -- p = true, q = true, R0 ≠ 0
        obtain ⟨fq, fr⟩ := F2 sx sy
        have FQ := Lib.hid fq
        have FR := Lib.hid fr
        have HR0 := Lib.hid hr0
        clear fq fr hr0 F1 F2 F3 F4 sx sy h0
        obtain ⟨_, a0, a1, _, _⟩ := id s0.ba
        obtain ⟨_, b0, b1, _, _⟩ := id s0.bb
        obtain ⟨_, q0, q1, q2, q3⟩ := id s0.bq
        obtain ⟨_, r0, r1, r2, r3⟩ := id s0.br
        go_wp2_with fail
        refine (neg_any pr Ar nr cr _ _ s0.zr (by omega)).mono ?_
        rintro e w3 ⟨p3, A3, n3, c3, rfl, z3, k3⟩
        have l3 := z3.len
        rw [Int.natAbs_neg, Int.natAbs_natCast] at l3
        have L3 := Lib.hid l3
        clear l3
        have s3 := s0.below k3
        have s4 := s3.setR z3
        clear a0 a1 b0 b1 q0 q1 q2 q3 r0 r1 r2 r3
        obtain ⟨_, a0, a1, _, _⟩ := id s3.ba
        obtain ⟨_, b0, b1, _, _⟩ := id s3.bb
        obtain ⟨_, q0, q1, q2, q3⟩ := id s3.bq
        obtain ⟨_, r0, r1, r2, r3⟩ := id s3.br
        clear k3 s0
        have hnr : 0 < n3 := by
          rw [← s4.zr.len]
          rcases Nat.eq_zero_or_pos (digs (-((x.natAbs % y.natAbs : Nat) : Int)).natAbs).length with h1 | h1
          · have := digs_nil.1 (List.eq_nil_of_length_eq_zero h1)
            have := HR0.out
            omega
          · exact h1
        have hpr : p3 = true := by
          rw [s4.zr.sign]
          have := HR0.out
          simp
          omega
        subst hpr
        obtain ⟨_, d0, d1, d2, d3⟩ := id s3.b1
        obtain ⟨_, e0, e1, e2, e3⟩ := id s3.b2
        go_wp2_with fail
        clear a0 a1 b0 b1 q0 q1 q2 q3 r0 r1 r2 r3
        clear d0 d1 d2 d3 e0 e1 e2 e3 z3 s3
        generalize (w3.setCell ⟨h, 0, none⟩ (.bool true)).setCell ⟨h, 1, none⟩ (.slice A3 n3 c3) = w5 at *
        obtain ⟨_, q0, q1, q2, q3⟩ := id s4.bq
        obtain ⟨_, r0, r1, r2, r3⟩ := id s4.br
        obtain ⟨_, d0, d1, d2, d3⟩ := id s4.b1
        obtain ⟨_, e0, e1, e2, e3⟩ := id s4.b2
        go_region
        go_wp2
        exact bodyPost_ret (v := .tuple #[.agg #[.bool pq, .slice Aq nq cq], .agg #[.bool true, .slice A3 n3 c3]]) (by simp [results, Tryz.results44, go_sem, d0, d1, e0, e1]) rfl (s4.eqQR FQ.out FR.out).done
end Go.Proofs.YtlidicnbmfkghaaGreatDoor

/- Two blocks for numbers that a statement makes anywhere among its calls (a short assignment of a call with two numbers): what stands meanwhile, whatever else is kept. -/
namespace Go.Proofs.YtlidicnbmfkghaaGreatDoor
open Go.RowKit

theorem below_alloc2 (W : World) (o : Obj) : Below W.heap.size W (W.alloc o) := (Below.refl _ _).alloc (Nat.le_refl _) o

/-- K is kept by calls, and by a number's store into a block of numbers behind lo. -/
structure Kept (lo : Nat) (K : World → Prop) : Prop where
  below : ∀ W W', K W → Below W.heap.size W W' → K W'
  set2 : ∀ W b p v r u, K W → Box W b p v → lo < b → K ((W.setCell ⟨b, 0, none⟩ (.bool r)).setCell ⟨b, 1, none⟩ u)

/-- L: the blocks made so far, the last one first. -/
structure PreD (lo : Nat) (K : World → Prop) (W : World) (L : List Nat) : Prop where
  keep : Kept lo K
  k : K W
  lt : lo < W.heap.size
  al : ∀ b ∈ L, Box W b false (.slice none 0 0)
  ge : ∀ b ∈ L, lo < b
  nd : L.Nodup
/-- both blocks hold their numbers -/
structure DivD (lo : Nat) (K : World → Prop) (W : World) (g h : Nat) (pq : Bool) (Aq : Option Addr) (nq cq : Nat) (Q : Int) (pr : Bool) (Ar : Option Addr) (nr cr : Nat) (R : Int) : Prop where
  keep : Kept lo K
  k : K W
  bq : Box W g pq (.slice Aq nq cq)
  br : Box W h pr (.slice Ar nr cr)
  zq : Zs W pq Aq nq cq Q
  zr : Zs W pr Ar nr cr R
  gg : lo < g
  gh : lo < h
  ne : g ≠ h
section
variable {lo : Nat} {K : World → Prop} {W W' : World} {L : List Nat} {g h : Nat} {pq : Bool} {Aq : Option Addr} {nq cq : Nat} {Q : Int} {pr : Bool} {Ar : Option Addr} {nr cr : Nat} {R : Int}
theorem PreD.below (s : PreD lo K W L) (k : Below W.heap.size W W') : PreD lo K W' L :=
  ⟨s.keep, s.keep.below _ _ s.k k, Nat.lt_of_lt_of_le s.lt k.size, fun b hb => (s.al b hb).below' k, s.ge, s.nd⟩
theorem PreD.drew (s : PreD lo K W L) : PreD lo K W.drew L := s.below (Below.refl _ _).drew
theorem PreD.alloc1 (s : PreD lo K W L) : PreD lo K (W.alloc (.cells #[.bool false, .slice none 0 0] 61)) (W.heap.size :: L) := by
  have s' := s.below (below_alloc2 W (.cells #[.bool false, .slice none 0 0] 61))
  refine ⟨s.keep, s'.k, s'.lt, fun b hb => ?_, fun b hb => ?_, ?_⟩
  · rcases List.mem_cons.1 hb with rfl | hb
    · exact Box.new _ _ _ _
    · exact s'.al b hb
  · rcases List.mem_cons.1 hb with rfl | hb
    · exact s.lt
    · exact s.ge b hb
  · refine List.nodup_cons.2 ⟨fun h => ?_, s.nd⟩
    have := (s.al _ h).lt
    omega
theorem PreD.alloc2 (s : PreD lo K W L) : PreD lo K ((W.alloc (.cells #[.bool false, .slice none 0 0] 61)).alloc (.cells #[.bool false, .slice none 0 0] 61)) ((W.heap.size + 1) :: W.heap.size :: L) := by
  have := s.alloc1.alloc1
  rwa [World.size_alloc] at this
theorem DivD.below (s : DivD lo K W g h pq Aq nq cq Q pr Ar nr cr R) (k : Below W.heap.size W W') : DivD lo K W' g h pq Aq nq cq Q pr Ar nr cr R :=
  ⟨s.keep, s.keep.below _ _ s.k k, s.bq.below' k, s.br.below' k, s.zq.below k, s.zr.below k, s.gg, s.gh, s.ne⟩
theorem DivD.setQ (s : DivD lo K W g h pq Aq nq cq Q pr Ar nr cr R) {t : Bool} {C : Option Addr} {k f : Nat} {z : Int} (hz : Zs W t C k f z) :
    DivD lo K ((W.setCell ⟨g, 0, none⟩ (.bool t)).setCell ⟨g, 1, none⟩ (.slice C k f)) g h t C k f z pr Ar nr cr R :=
  ⟨s.keep, s.keep.set2 _ _ _ _ _ _ s.k s.bq s.gg, s.bq.self2 _ _, s.br.far2 s.ne _ _, hz.set2 s.bq.c0 _ _, s.zr.set2 s.bq.c0 _ _, s.gg, s.gh, s.ne⟩
theorem DivD.setR (s : DivD lo K W g h pq Aq nq cq Q pr Ar nr cr R) {t : Bool} {C : Option Addr} {k f : Nat} {z : Int} (hz : Zs W t C k f z) :
    DivD lo K ((W.setCell ⟨h, 0, none⟩ (.bool t)).setCell ⟨h, 1, none⟩ (.slice C k f)) g h pq Aq nq cq Q t C k f z :=
  ⟨s.keep, s.keep.set2 _ _ _ _ _ _ s.k s.br s.gh, s.bq.far2 (Ne.symm s.ne) _ _, s.br.self2 _ _, s.zq.set2 s.br.c0 _ _, hz.set2 s.br.c0 _ _, s.gg, s.gh, s.ne⟩
theorem PreD.fin1 (s : PreD lo K W L) (hg : g ∈ L) (hh : h ∈ L) (ne : g ≠ h) (zq : Zs W pq Aq nq cq Q) (zr : Zs W pr Ar nr cr R) :
    DivD lo K ((((W.setCell ⟨g, 0, none⟩ (.bool pq)).setCell ⟨g, 1, none⟩ (.slice Aq nq cq)).setCell ⟨h, 0, none⟩ (.bool pr)).setCell ⟨h, 1, none⟩ (.slice Ar nr cr)) g h pq Aq nq cq Q pr Ar nr cr R :=
  have s0 : DivD lo K W g h false none 0 0 0 false none 0 0 0 := ⟨s.keep, s.k, s.al g hg, s.al h hh, Zs.zero W, Zs.zero W, s.ge g hg, s.ge h hh, ne⟩
  (s0.setQ zq).setR (zr.set2 (s.al g hg).c0 _ _)
theorem PreD.fin1a (s : PreD lo K W [h, g]) (zq : Zs W pq Aq nq cq Q) (zr : Zs W pr Ar nr cr R) :
    DivD lo K ((((W.setCell ⟨g, 0, none⟩ (.bool pq)).setCell ⟨g, 1, none⟩ (.slice Aq nq cq)).setCell ⟨h, 0, none⟩ (.bool pr)).setCell ⟨h, 1, none⟩ (.slice Ar nr cr)) g h pq Aq nq cq Q pr Ar nr cr R :=
  s.fin1 (by simp) (by simp) (fun e => (List.nodup_cons.1 s.nd).1 (by simp [e])) zq zr
theorem PreD.fin1b (s : PreD lo K W [g, h]) (zq : Zs W pq Aq nq cq Q) (zr : Zs W pr Ar nr cr R) :
    DivD lo K ((((W.setCell ⟨g, 0, none⟩ (.bool pq)).setCell ⟨g, 1, none⟩ (.slice Aq nq cq)).setCell ⟨h, 0, none⟩ (.bool pr)).setCell ⟨h, 1, none⟩ (.slice Ar nr cr)) g h pq Aq nq cq Q pr Ar nr cr R :=
  s.fin1 (by simp) (by simp) (fun e => (List.nodup_cons.1 s.nd).1 (by simp [e])) zq zr
theorem size_setq (W : World) (b : Nat) (u v : Value) : ((W.setCell ⟨b, 0, none⟩ u).setCell ⟨b, 1, none⟩ v).heap.size = W.heap.size := by simp [World.setCell]
theorem PreD.fin2a (s : PreD lo K W [g]) (zq : Zs W pq Aq nq cq Q) (zr : Zs W pr Ar nr cr R) :
    DivD lo K (((W.setCell ⟨g, 0, none⟩ (.bool pq)).setCell ⟨g, 1, none⟩ (.slice Aq nq cq)).alloc (.cells #[.bool pr, .slice Ar nr cr] 61)) g W.heap.size pq Aq nq cq Q pr Ar nr cr R := by
  have bx := s.al g (by simp)
  have h1 := bx.lt
  have k := below_alloc2 ((W.setCell ⟨g, 0, none⟩ (.bool pq)).setCell ⟨g, 1, none⟩ (.slice Aq nq cq)) (.cells #[.bool pr, .slice Ar nr cr] 61)
  have nb := Box.new ((W.setCell ⟨g, 0, none⟩ (.bool pq)).setCell ⟨g, 1, none⟩ (.slice Aq nq cq)) pr (.slice Ar nr cr) 61
  rw [size_setq] at nb
  exact ⟨s.keep, s.keep.below _ _ (s.keep.set2 _ _ _ _ _ _ s.k bx (s.ge g (by simp))) k, (bx.self2 _ _).below' k, nb, (zq.set2 bx.c0 _ _).below k, (zr.set2 bx.c0 _ _).below k, s.ge g (by simp), s.lt, by omega⟩
theorem PreD.fin2b (s : PreD lo K W [h]) (zq : Zs W pq Aq nq cq Q) (zr : Zs W pr Ar nr cr R) :
    DivD lo K (((W.setCell ⟨h, 0, none⟩ (.bool pr)).setCell ⟨h, 1, none⟩ (.slice Ar nr cr)).alloc (.cells #[.bool pq, .slice Aq nq cq] 61)) W.heap.size h pq Aq nq cq Q pr Ar nr cr R := by
  have bx := s.al h (by simp)
  have h1 := bx.lt
  have k := below_alloc2 ((W.setCell ⟨h, 0, none⟩ (.bool pr)).setCell ⟨h, 1, none⟩ (.slice Ar nr cr)) (.cells #[.bool pq, .slice Aq nq cq] 61)
  have nb := Box.new ((W.setCell ⟨h, 0, none⟩ (.bool pr)).setCell ⟨h, 1, none⟩ (.slice Ar nr cr)) pq (.slice Aq nq cq) 61
  rw [size_setq] at nb
  exact ⟨s.keep, s.keep.below _ _ (s.keep.set2 _ _ _ _ _ _ s.k bx (s.ge h (by simp))) k, nb, (bx.self2 _ _).below' k, (zq.set2 bx.c0 _ _).below k, (zr.set2 bx.c0 _ _).below k, s.lt, s.ge h (by simp), by omega⟩
theorem PreD.fin3a (s : PreD lo K W L) (zq : Zs W pq Aq nq cq Q) (zr : Zs W pr Ar nr cr R) :
    DivD lo K ((W.alloc (.cells #[.bool pq, .slice Aq nq cq] 61)).alloc (.cells #[.bool pr, .slice Ar nr cr] 61)) W.heap.size (W.heap.size + 1) pq Aq nq cq Q pr Ar nr cr R := by
  have k := below_next (below_alloc2 W (.cells #[.bool pq, .slice Aq nq cq] 61)) (below_alloc2 _ (.cells #[.bool pr, .slice Ar nr cr] 61))
  have n1 := (Box.new W pq (.slice Aq nq cq) 61).alloc (.cells #[.bool pr, .slice Ar nr cr] 61)
  have n2 := Box.new (W.alloc (.cells #[.bool pq, .slice Aq nq cq] 61)) pr (.slice Ar nr cr) 61
  rw [World.size_alloc] at n2
  exact ⟨s.keep, s.keep.below _ _ s.k k, n1, n2, zq.below k, zr.below k, s.lt, by have := s.lt; omega, by omega⟩
theorem PreD.fin3b (s : PreD lo K W L) (zq : Zs W pq Aq nq cq Q) (zr : Zs W pr Ar nr cr R) :
    DivD lo K ((W.alloc (.cells #[.bool pr, .slice Ar nr cr] 61)).alloc (.cells #[.bool pq, .slice Aq nq cq] 61)) (W.heap.size + 1) W.heap.size pq Aq nq cq Q pr Ar nr cr R := by
  have k := below_next (below_alloc2 W (.cells #[.bool pr, .slice Ar nr cr] 61)) (below_alloc2 _ (.cells #[.bool pq, .slice Aq nq cq] 61))
  have n1 := (Box.new W pr (.slice Ar nr cr) 61).alloc (.cells #[.bool pq, .slice Aq nq cq] 61)
  have n2 := Box.new (W.alloc (.cells #[.bool pr, .slice Ar nr cr] 61)) pq (.slice Aq nq cq) 61
  rw [World.size_alloc] at n2
  exact ⟨s.keep, s.keep.below _ _ s.k k, n2, n1, zq.below k, zr.below k, by have := s.lt; omega, s.lt, by omega⟩
end
/-- What holds behind such a statement: the two variables point to the blocks. -/
def DivCutD (lo : Nat) (K : World → Prop) (Q R : Int) (v v' : Value) (W : World) : Prop :=
  ∃ (g h : Nat) (pq : Bool) (Aq : Option Addr) (nq cq : Nat) (pr : Bool) (Ar : Option Addr) (nr cr : Nat), v = .pointer (some ⟨g, 0, none⟩) ∧ v' = .pointer (some ⟨h, 0, none⟩) ∧ DivD lo K W g h pq Aq nq cq Q pr Ar nr cr R

/-- a block behind lo is none of the first ones -/
theorem behind {lo b : Nat} (h : lo < b) (a : Nat) (ha : a ≤ lo) : b ≠ a ∧ b + 1 ≠ a := by omega
end Go.Proofs.YtlidicnbmfkghaaGreatDoor
