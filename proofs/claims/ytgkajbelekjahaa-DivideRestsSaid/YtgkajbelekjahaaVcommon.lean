/- Package divide's common: the greatest size by which two sizes are divided without a rest. -/
import Derived.Test.YtgkajbelekjahaaVsplit
import Derived.Test.YtgkajbelekjahaaVtwo
import Derived.Deep.DeepCutAuto
namespace Go.Proofs.Ytgkajbelekjahaa
open Go.RowKit

/-- the size that a block holds -/
def sizeAt (b : Nat) (W : World) : Nat :=
  match W.cell? ⟨b, 0, none⟩, W.cell? ⟨b, 1, none⟩ with
  | some (.int _ h), some (.int _ l) => (h * 18446744073709551616 + l).toNat
  | _, _ => 0
theorem sizeAt_pair {b : Nat} {W : World} {y : Int} (h : Pair W b (.int .u64 (hiW y)) (.int .u64 (loW y))) : sizeAt b W = y.toNat := by
  unfold sizeAt
  rw [h.c0, h.c1]
  have : hiW y * 18446744073709551616 + loW y = y := by unfold hiW loW; omega
  simp only [this]
theorem halfs_zero {y : Int} (h : hiW y = 0) (k : loW y = 0) : y = 0 := by unfold hiW at h; unfold loW at k; omega
theorem gcd_step (x y : Int) (h0 : 0 ≤ x) (h1 : 0 ≤ y) : Int.gcd y (x % y) = Int.gcd x y := by
  obtain ⟨x, rfl⟩ := Int.eq_ofNat_of_zero_le h0
  obtain ⟨y, rfl⟩ := Int.eq_ofNat_of_zero_le h1
  rw [← Int.natCast_emod]
  simp only [Int.gcd, Int.natAbs_natCast]
  rw [Nat.gcd_comm y, ← Nat.gcd_rec, Nat.gcd_comm]
theorem gcd_end (x : Int) (h0 : 0 ≤ x) : (Int.gcd x 0 : Int) = x := by simp; omega
theorem PairsK.swap {w W : World} {x y : Nat × Value × Value} {L : List (Nat × Value × Value)} (h : PairsK w (x :: y :: L) W) : PairsK w (y :: x :: L) W :=
  ⟨fun z hz => h.al z (by simp only [List.mem_cons] at hz ⊢; rcases hz with h | h | h; exact .inr (.inl h); exact .inl h; exact .inr (.inr h)), h.hb⟩
theorem PairsK.put {w W : World} {g : Nat} {u v : Value} {L : List (Nat × Value × Value)} (h : PairsK w ((g, u, v) :: L) W) (hg : w.heap.size ≤ g) (ne : ∀ x ∈ L, x.1 ≠ g) (u' v' : Value) :
    PairsK w ((g, u', v') :: L) ((W.setCell ⟨g, 0, none⟩ u').setCell ⟨g, 1, none⟩ v') :=
  ⟨fun z hz => by
    rcases List.mem_cons.1 hz with rfl | hz
    · exact h.head.self2 _ _
    · exact (h.al z (List.mem_cons_of_mem _ hz)).far2 (fun e => ne z hz e.symm) _ _, (h.hb.setCell (p := ⟨g, 0, none⟩) (by show _ ≤ g; omega) _).setCell (p := ⟨g, 1, none⟩) (by show _ ≤ g; omega) _⟩

theorem PairsK.two (w W : World) (x : Value × Value) (u v u' v' a b c d : Value) (h : PairsK w [(w.heap.size + 1 + 1, x.1, x.2), (w.heap.size + 1, u, v), (w.heap.size, u', v')] W) :
    PairsK w [(w.heap.size + 1 + 1, x.1, x.2), (w.heap.size + 1, c, d), (w.heap.size, a, b)] ((((W.setCell ⟨w.heap.size, 0, none⟩ a).setCell ⟨w.heap.size, 1, none⟩ b).setCell ⟨w.heap.size + 1, 0, none⟩ c).setCell ⟨w.heap.size + 1, 1, none⟩ d) :=
  ⟨fun z hz => by
    simp only [List.mem_cons, List.not_mem_nil, or_false] at hz
    rcases hz with rfl | rfl | rfl
    · exact (h.head.far2 (by omega) _ _).far2 (by omega) _ _
    · exact (h.tail.head.far2 (by omega) _ _).self2 _ _
    · exact (h.tail.tail.head.self2 _ _).far2 (by omega) _ _,
   (((h.hb.setCell (p := ⟨w.heap.size, 0, none⟩) (Nat.le_refl _) _).setCell (p := ⟨w.heap.size, 1, none⟩) (Nat.le_refl _) _).setCell (p := ⟨w.heap.size + 1, 0, none⟩) (by show _ ≤ w.heap.size + 1; omega) _).setCell (p := ⟨w.heap.size + 1, 1, none⟩) (by show _ ≤ w.heap.size + 1; omega) _⟩

/-- what holds at the head of a round -/
def ComRel (w : World) (G : Int) (W : World) : Prop := ∃ x y : Int, (Int.gcd x y : Int) = G ∧ (0 ≤ x ∧ x ≤ 170141183460469231731687303715884105728 ∧ 0 ≤ y ∧ y ≤ 170141183460469231731687303715884105728) ∧
  PairsK w [(w.heap.size + 1 + 1, .int .u64 0, .int .u64 0), (w.heap.size + 1, .int .u64 (hiW y), .int .u64 (loW y)), (w.heap.size, .int .u64 (hiW x), .int .u64 (loW x))] W

set_option maxRecDepth 100000 in
set_option maxHeartbeats 8000000 in
theorem common_sz (a b : Int) (a0 : 0 ≤ a) (a1 : a ≤ 170141183460469231731687303715884105728) (b0 : 0 ≤ b) (b1 : b ≤ 170141183460469231731687303715884105728) (w : World) :
    Calls Try.prog 39 #[.agg #[.int .u64 (hiW a), .int .u64 (loW a)], .agg #[.int .u64 (hiW b), .int .u64 (loW b)]] w (RetSz w (Int.gcd a b : Int)) := by
  go_enter Try.func39, Try.ntmps39
  go_wp2_with fail
  have KK := ((((PairsK.nil w).more (.int .u64 (hiW a)) (.int .u64 (loW a)) 53).more (.int .u64 (hiW b)) (.int .u64 (loW b)) 53).more (.int .u64 0) (.int .u64 0) 53)
  simp only [World.size_alloc] at KK
  generalize (((w.alloc (.cells #[.int .u64 (hiW a), .int .u64 (loW a)] 53)).alloc (.cells #[.int .u64 (hiW b), .int .u64 (loW b)] 53)).alloc (.cells #[.int .u64 0, .int .u64 0] 53)) = w0 at *
  have R0 : ComRel w (Int.gcd a b : Int) w0 := ⟨a, b, rfl, ⟨a0, a1, b0, b1⟩, KK⟩
  clear KK a0 a1 b0 b1
  obtain ⟨G, hG⟩ : ∃ G : Int, G = (Int.gcd a b : Int) := ⟨_, rfl⟩
  rw [← hG] at R0
  have HG := Lib.hid hG
  clear hG
  go_loopw [] (fun wr => ComRel w G wr) (fun wr => sizeAt (w.heap.size + 1) wr)
  case atStart => exact R0
  case round =>
    clear R0
    obtain ⟨x, y, hg, ⟨x0, x1, y0, y1⟩, KK⟩ := hrel
    have HD := Lib.hid hg
    clear hg
    have hs0 := Lib.hid (sizeAt_pair KK.tail.head)
    obtain ⟨_, c0, c1, _, _⟩ := KK.tail.head
    obtain ⟨_, d0, d1, _, _⟩ := KK.tail.tail.head
    by_cases hy : y = 0
    · subst hy
      have e0 : hiW 0 = 0 := rfl
      have e1 : loW 0 = 0 := rfl
      rw [e0] at c0
      rw [e1] at c1
      clear e0 e1
      obtain ⟨_, s0, s1, s2, s3⟩ := KK.head
      go_wp2
      have P2 := KK.head.self2 (.int .u64 (hiW x)) (.int .u64 (loW x))
      have HB := (KK.hb.setCell (p := ⟨w.heap.size + 1 + 1, 0, none⟩) (by show _ ≤ w.heap.size + 1 + 1; omega) (.int .u64 (hiW x))).setCell (p := ⟨w.heap.size + 1 + 1, 1, none⟩) (by show _ ≤ w.heap.size + 1 + 1; omega) (.int .u64 (loW x))
      exact bodyPost_ret (v := .agg #[.int .u64 (hiW x), .int .u64 (loW x)]) (by simp [results, Try.results39, go_sem, P2.c0, P2.c1]) rfl ⟨by rw [← HG.out, ← HD.out, gcd_end x x0], HB⟩
    · go_upto_region 1 with (fail)
      go_cut [9] (fun v9 wx => v9 = .bool true ∧ PairsK w [(w.heap.size + 1 + 1, .int .u64 0, .int .u64 0), (w.heap.size + 1, .int .u64 (hiW y), .int .u64 (loW y)), (w.heap.size, .int .u64 (hiW x), .int .u64 (loW x))] wx)
      case first =>
        by_cases hx : hiW y = 0
        · have hz : ¬ loW y = 0 := fun k => hy (halfs_zero hx k)
          have hz' : (loW y == 0) = false := by rw [beq_eq_false_iff_ne]; exact hz
          rw [hx] at c0
          go_wp2_with fail
          go_meet
          exact ⟨rfl, KK⟩
        · have hx' : (hiW y == 0) = false := by rw [beq_eq_false_iff_ne]; exact hx
          go_wp2_with fail
          go_meet
          exact ⟨rfl, KK⟩
      case rest =>
        clear c0 c1 d0 d1 KK
        obtain ⟨rfl, KK⟩ := hcut
        have SP := Lib.hid (fun W => split_any x y x0 x1 (by omega) y1 W)
        have HN := Lib.hid (And.intro (Int.ediv_nonneg x0 y0) (And.intro (Int.emod_nonneg x hy) (And.intro (Int.emod_lt_of_pos x (show 0 < y by omega)) (gcd_step x y x0 y0))))
        obtain ⟨_, c0, c1, _, _⟩ := KK.tail.head
        obtain ⟨_, d0, d1, _, _⟩ := KK.tail.tail.head
        have HY := Lib.hid (And.intro y0 (And.intro y1 hy))
        clear x0 x1 y0 y1 hy
        generalize x / y = q at *
        generalize x % y = r at *
        go_wp2_with fail
        refine (SP.out _).mono ?_
        rintro e w1 ⟨rfl, k⟩
        replace KK := KK.below k
        clear k c0 c1 d0 d1
        go_wp2_with fail
        have hl := KK.head.lt
        replace KK := (KK.more (.int .u64 (hiW q)) (.int .u64 (loW q)) 53).more (.int .u64 (hiW r)) (.int .u64 (loW r)) 53
        rw [World.size_alloc] at KK
        generalize (w1.alloc (.cells #[.int .u64 (hiW q), .int .u64 (loW q)] 53)).alloc (.cells #[.int .u64 (hiW r), .int .u64 (loW r)] 53) = w2 at *
        have i1 : w1.heap.size + 1 ≠ w.heap.size := by omega
        have i2 : w1.heap.size + 1 ≠ w.heap.size + 1 := by omega
        generalize w1.heap.size + 1 = g at *
        obtain ⟨_, r0, r1, _, _⟩ := KK.head
        obtain ⟨_, c0, c1, c2, c3⟩ := KK.tail.tail.tail.head
        obtain ⟨_, d0, d1, d2, d3⟩ := KK.tail.tail.tail.tail.head
        have i3 := Ne.symm i1
        have i4 := Ne.symm i2
        have K2 := (PairsK.two w w2 (.int .u64 0, .int .u64 0) _ _ _ _ (.int .u64 (hiW y)) (.int .u64 (loW y)) (.int .u64 (hiW r)) (.int .u64 (loW r)) KK.tail.tail).drew
        go_region
        all_goals
          go_roundw
          case rel => ((repeat apply Exists.intro); exact ⟨⟨y, r, by rw [HN.out.2.2.2, HD.out], ⟨HY.out.1, HY.out.2.1, HN.out.2.1, by have := HN.out.2.2.1; have := HY.out.2.1; omega⟩, K2⟩, rfl⟩)
          case measure => rw [sizeAt_pair K2.tail.head, hs0.out]; have := HN.out.2.1; have := HN.out.2.2.1; omega
end Go.Proofs.Ytgkajbelekjahaa
