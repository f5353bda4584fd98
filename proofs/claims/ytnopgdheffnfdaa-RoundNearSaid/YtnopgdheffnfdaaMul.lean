/- The call Mul: the product of two numbers. -/
import Derived.Test.YtnopgdheffnfdaaSub
import Derived.Laws.MakeOwn
import Derived.Deep.DeepCutAuto
namespace Go.Proofs.Ytnopgdheffnfdaa
open Go.RowKit

/-- block g holds the digits l, as cells of int, not frozen -/
structure Row (w : World) (g : Nat) (l : List Nat) : Prop where
  lt : g < w.heap.size
  dig : Dig l
  cells : ∀ j, j < l.length → w.cell? ⟨g, j, none⟩ = some (.int .i64 (l.getD j 0 : Nat))
  frz : ∀ j, w.frozen? ⟨g, j, none⟩ = false
theorem Row.drew {w : World} {g : Nat} {l : List Nat} (h : Row w g l) (k : Nat) : Row (w.drewN k) g l := ⟨h.lt, h.dig, h.cells, h.frz⟩
theorem Row.set {w : World} {g : Nat} {l : List Nat} (h : Row w g l) {i d : Nat} (hi : i < l.length) (hd : d < 65536) : Row (w.setCell ⟨g, i, none⟩ (.int .i64 (d : Int))) g (l.set i d) := by
  refine ⟨by simpa [World.setCell] using h.lt, h.dig.set hd, fun j hj => ?_, fun j => by simp [h.frz]⟩
  by_cases e : i = j
  · subst e
    rw [World.cell?_setCell_same _ _ _ (h.cells i hi)]
    simp [hi]
  · rw [World.cell?_setCell_other _ _ _ _ (fun e' => e (congrArg Addr.off e'))]
    rw [h.cells j (by simpa using hj)]
    simp [List.getD_eq_getElem?_getD, e]
theorem Row.ds {w : World} {g : Nat} {l : List Nat} (h : Row w g l) (hl : l.length ≤ 1000000) : Ds w (some ⟨g, 0, none⟩) l.length l.length l :=
  ⟨rfl, Nat.le_refl _, by unfold maxLen; omega, h.dig, fun _ => ⟨g, rfl, h.lt, h.cells⟩⟩

theorem Row.of_made {w : World} {base g n N : Nat} (h : w.ownsRow base 3 1 (.slice (some ⟨g, 0, none⟩) n n) n (madeCells (Value.int .i64 0).cells N).toList) (hN : N = n) : Row w g (List.replicate n 0) := by
  subst hN
  have hl : (madeCells (Value.int .i64 0).cells N).toList = List.replicate N (.int .i64 0) := toList_madeCells_one _ _
  rw [hl] at h
  refine ⟨(h.lt g rfl).2, Dig.replicate _, fun j hj => ?_, fun j => ?_⟩
  · have hj' : j < N := by simpa using hj
    have := h.cells (g := g) rfl j (.int .i64 0) (by simp [hj'])
    have ea : ((⟨g, 0, none⟩ : Addr).add j) = ⟨g, j, none⟩ := by unfold Addr.add; split <;> simp_all
    rw [ea] at this
    rw [this]
    simp [hj']
  · rcases h.2 with ⟨h0, _⟩ | ⟨g', cap, cur, hv, _, hh, _⟩
    · cases h0
    · injection hv with h1 _ _
      injection h1 with h1
      injection h1 with h1 _ _
      subst h1
      simp [World.frozen?, hh]

theorem sgn_mul (p q : Bool) (u v : Nat) : sgn (p != q) (u * v) = sgn p u * sgn q v := by
  cases p <;> cases q
  · show ((u * v : Nat) : Int) = (u : Int) * (v : Int)
    rw [Int.natCast_mul]
  · show -((u * v : Nat) : Int) = (u : Int) * -(v : Int)
    rw [Int.natCast_mul, Int.mul_neg]
  · show -((u * v : Nat) : Int) = -(u : Int) * (v : Int)
    rw [Int.natCast_mul, Int.neg_mul]
  · show ((u * v : Nat) : Int) = -(u : Int) * -(v : Int)
    rw [Int.natCast_mul, Int.neg_mul_neg]

/-- What holds at the head of a round of Mul's outer loop, and of the inner one. -/
def MulRel (w3 : World) (g N : Nat) (a b : List Nat) (i : Value) (wr : World) : Prop :=
  ∃ (I : Nat) (out : List Nat), i = .int .i64 I ∧ I ≤ a.length ∧ Row wr g out ∧ out.length = N ∧ val out = val (a.take I) * val b ∧ Below w3.heap.size w3 wr
def MulIn (w3 : World) (g N I : Nat) (a b : List Nat) (cr k : Value) (wr : World) : Prop :=
  ∃ (c K : Nat) (out : List Nat), cr = .int .i64 c ∧ k = .int .i64 K ∧ K ≤ b.length + 1 ∧ c < 65536 ∧ Row wr g out ∧ out.length = N ∧
    val out + c * 65536 ^ (I + K) = val (a.take I) * val b + a.getD I 0 * val (b.take K) * 65536 ^ I ∧ Below w3.heap.size w3 wr

set_option maxRecDepth 100000 in
set_option maxHeartbeats 4000000 in
theorem mul_any (p q : Bool) (A B : Option Addr) (n m c d : Nat) (x y : Int) (w : World) (hx : Zs w p A n c x) (hy : Zs w q B m d y) (hn : n ≤ 400000) (hm : m ≤ 400000) :
    Calls Try.prog 32 #[.agg #[.bool p, .slice A n c], .agg #[.bool q, .slice B m d]] w (RetZ w (x * y)) := by
  obtain ⟨i0, hi, hz0, hz1, hz2⟩ := info_parts int_info
  go_enter Try.func32, Try.ntmps32
  go_wp2_with (at_make
               refine wpList_make_full _ rfl (.tmp 17) (.tmp 17) 36 rfl (w.heap.size + 3) 3 i0 _ 1 Try.underlying36 hi hz0 hz1 .i64 .i64 ((n : Int) + m + 1) ((n : Int) + m + 1) (n + m + 1) rfl rfl ?_ ?_ ?_ ?_ ?_ ?_
               · omega
               · omega
               · rw [hz2]; omega
               · unfold maxLen; omega
               · simp
               intro w4 hown hg4)
  obtain ⟨b1, b2, b3, hb0⟩ := boxes3 w p q false (.slice A n c) (.slice B m d) (.slice none 0 0) 38
  have hg3 : (((w.alloc (.cells #[.bool p, .slice A n c] 38)).alloc (.cells #[.bool q, .slice B m d] 38)).alloc (.cells #[.bool false, .slice none 0 0] 38)).heap.size = w.heap.size + 1 + 1 + 1 := by simp
  generalize ((w.alloc (.cells #[.bool p, .slice A n c] 38)).alloc (.cells #[.bool q, .slice B m d] 38)).alloc (.cells #[.bool false, .slice none 0 0] 38) = w3 at *
  have hX := (hx.below hb0).ds
  have hY := (hy.below hb0).ds
  have hb4 : Below w3.heap.size w3 w4 := (Below.refl _ _).grown hg4 (Nat.le_refl _) (fun k hk => by cases hk)
  have hrow := Row.of_made hown (by omega)
  rw [hg3] at hrow
  have hN : (List.replicate (n + m + 1) 0).length = n + m + 1 := List.length_replicate
  clear hown hg4
  have la := hX.len
  have lb := hY.len
  generalize hax : digs x.natAbs = a at *
  generalize hby : digs y.natAbs = b at *
  obtain ⟨g, hg⟩ : ∃ g, g = w.heap.size + 1 + 1 + 1 := ⟨_, rfl⟩
  rw [← hg] at hrow hg3 ⊢
  have hgl : w.heap.size + 2 < g := by omega
  have HG3 := Lib.hid hg3
  clear hg3
  have HG := Lib.hid hg
  have HN := Lib.hid hN
  have LA := Lib.hid la
  have LB := Lib.hid lb
  have HAX := Lib.hid hax
  have HBY := Lib.hid hby
  clear hg hN la lb hax hby
  go_loopw [6] (fun i wr => MulRel w3 g (n + m + 1) a b i wr) (fun i _ => n - (intOf i).toNat)
  case atStart => exact ⟨0, _, rfl, Nat.zero_le _, hrow, HN.out, by rw [val_replicate]; simp [val], hb4⟩
  case round =>
    obtain ⟨I, out, rfl, hI, hro, hlo, hvo, hbe⟩ := hrel
    clear hrow hb4
    obtain ⟨wo, rfl⟩ : ∃ wo : World, wo = wr := ⟨_, rfl⟩
    have hbs := hbe.size
    rw [LA.out] at hI
    have HLO := Lib.hid hlo
    have HVO := Lib.hid hvo
    clear hlo hvo
    have B1 := b1.below' hbe
    have B2 := b2.below' hbe
    by_cases hlt : I < n
    · obtain ⟨_, a0, a1, _, _⟩ := id B1
      obtain ⟨_, c0, c1, _, _⟩ := id B2
      go_wp2_with fail
      clear a0 a1 c0 c1 B1 B2
      go_loopw [7, 8] (fun cr k wr => MulIn w3 g (n + m + 1) I a b cr k wr) (fun _ k _ => m + 2 - (intOf k).toNat)
      case atStart => exact ⟨0, 0, out, rfl, rfl, by omega, by omega, hro, HLO.out, by rw [HVO.out]; simp [val], hbe⟩
      case round =>
        clear hro hbe hbs HLO HVO
        obtain ⟨cy, K, out, rfl, rfl, hK, hcy, hro, hlo, hv, hbe⟩ := hrel
        have hbs := hbe.size
        have B1 := b1.below' hbe
        have B2 := b2.below' hbe
        obtain ⟨_, a0, a1, _, _⟩ := id B1
        obtain ⟨_, c0, c1, _, _⟩ := id B2
        have hAa := hX.below hbe
        have hBb := hY.below hbe
        have hIa : I < a.length := by rw [LA.out]; exact hlt
        have room := fun (h0 : 0 < cy) (h1 : b.length ≤ K) => mul_room hX.dig hY.dig hIa h0 hv h1
        rw [LB.out] at hK room
        have ROOM := Lib.hid room
        clear room
        have hcase : (K < m) ∨ (¬ K < m ∧ 0 < cy) ∨ (¬ K < m ∧ cy = 0) := by omega
        rcases hcase with h1 | ⟨h1, h2⟩ | ⟨h1, rfl⟩
        case inr.inr =>
          have hfin := mul_round hv (by rw [LB.out]; omega)
          have HF := Lib.hid hfin
          have HLO := Lib.hid hlo
          clear hfin hv hlo ROOM
          go_wp2
          go_roundw
          case rel => exact ⟨I + 1, out, int_eq (by omega), by rw [LA.out]; omega, hro, HLO.out, HF.out, hbe⟩
          case measure => simp only [intOf]; omega
        all_goals
          have hKm : K ≤ m := by first | omega | (have := ROOM.out h2 (by omega); omega)
          have hj : I + K < out.length := by rw [hlo]; omega
          obtain ⟨hs1, hs2, hs3, hs4⟩ := mul_step hro.dig hY.dig (hX.dig.getD I) hcy hj hv
          have oc := hro.cells (I + K) hj
          have hset := fun j => (hro.drew j).set (i := I + K) (d := (out.getD (I + K) 0 + a.getD I 0 * b.getD K 0 + cy) % 65536) hj (Nat.mod_lt _ (by decide))
          obtain ⟨ga, hA, hga, hcl⟩ := hAa.cells (by omega)
          subst hA
          have xc := hcl I hlt
          have C2 := fun j => digit_same (i := K) (ds_drewN hBb j) (by omega) (by omega)
          have o1 := hro.dig.getD (I + K)
          have x1 := hX.dig.getD I
          have y1 := hY.dig.getD K
          have f1 := hro.frz (I + K)
          have HS4 := Lib.hid hs4
          have HLO := Lib.hid hlo
          have HSET := Lib.hid hset
          clear hs4 hv hlo hcl hset ROOM hro
          generalize out.getD (I + K) 0 = o at *
          generalize hxa : a.getD I 0 = xa at *
          have HXA := Lib.hid hxa
          clear hxa
          generalize b.getD K 0 = yb at *
          have hp1 : (xa : Int) * yb ≤ 4294836225 := by
            have : xa * yb ≤ 65535 * 65535 := Nat.mul_le_mul (by omega) (by omega)
            have h3 : ((xa * yb : Nat) : Int) ≤ 4294836225 := by omega
            rwa [Int.natCast_mul] at h3
          have hp0 : 0 ≤ (xa : Int) * yb := by rw [← Int.natCast_mul]; omega
          have hi1 : (I : Int) < n := by omega
          have hi2 : (I : Int) + K < n + m + 1 := by omega
          have ec1 : ((o + xa * yb + cy : Nat) : Int) % 65536 = ((o + xa * yb + cy) % 65536 : Nat) := by omega
          have ec2 : ((o + xa * yb + cy : Nat) : Int) / 65536 = ((o + xa * yb + cy) / 65536 : Nat) := by omega
          rw [Int.natCast_add, Int.natCast_add, Int.natCast_mul] at ec1 ec2
          have EC1 := Lib.hid ec1
          have EC2 := Lib.hid ec2
          clear ec1 ec2
          go_wp2_with fail
          go_quiet ((go_at_call 58; exact Calls.quiet_of_same (C2 _)))
          go_wp2
          go_roundw
          case rel =>
            refine ⟨(o + xa * yb + cy) / 65536, K + 1, out.set (I + K) ((o + xa * yb + cy) % 65536), int_eq EC2.out, int_eq (by omega), by rw [LB.out]; omega, hs2, ?_, by rw [List.length_set]; exact HLO.out, by rw [HXA.out]; exact HS4.out, (below_drewN hbe nq).setCell (p := ⟨g, I + K, none⟩) (by rw [HG3.out]; exact Nat.le_refl _) _⟩
            rw [EC1.out]
            exact HSET.out nq
          case measure => simp only [intOf]; omega
    · have hIn : I = n := by omega
      subst hIn
      have hfin : sgn (p != q) (val out) = x * y := by
        rw [HVO.out, List.take_of_length_le (by rw [LA.out]; exact Nat.le_refl _), ← HAX.out, ← HBY.out, val_digs, val_digs]
        have h1 := hx.val
        have h2 := hy.val
        rw [sgn_mul, h1, h2]
      have HF := Lib.hid hfin
      have hds := hro.ds (by rw [HLO.out]; omega)
      rw [HLO.out] at hds
      have B3 := b3.below' hbe
      have HB := below_next hb0 hbe
      clear hfin hbs hro
      obtain ⟨_, a0, a1, _, _⟩ := id B1
      obtain ⟨_, c0, c1, _, _⟩ := id B2
      clear B1 B2
      go_wp2_with fail
      refine (tidy_any (p != q) _ _ _ out _ hds (by omega)).mono ?_
      rintro e w5 ⟨r, C, k, f, rfl, hz, hb⟩
      rw [HF.out] at hz
      have B3' := B3.below' hb
      have HB' := below_next HB hb
      clear B3 HB hb a0 a1 c0 c1
      obtain ⟨_, d2, d3, e2, e3⟩ := id B3'
      go_wp2
      exact bodyPost_ret (v := .agg #[.bool r, .slice C k f]) (by simp [results, Try.results32, go_sem, d2, d3]) rfl (B3'.ret hz HB' (by omega))
end Go.Proofs.Ytnopgdheffnfdaa
