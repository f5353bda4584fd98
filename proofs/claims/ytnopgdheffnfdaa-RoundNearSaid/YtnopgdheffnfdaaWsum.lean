/- What package wide's Sum answers, at any row of wide numbers: their sum, or the refusal where it has no room. -/
import Derived.Test.YtnopgdheffnfdaaWords
namespace Go.Proofs.Ytnopgdheffnfdaa
open Go.RowKit

/-- The slice value '.slice A n c' reads as the wide numbers l. -/
structure Ws (w : World) (A : Option Addr) (n c : Nat) (l : List Int) : Prop where
  len : l.length = n
  cap : n ≤ c
  max : c ≤ maxLen
  wide : ∀ z ∈ l, InW z
  cells : 0 < n → ∃ a : Addr, A = some a ∧ a.block < w.heap.size ∧ ∀ j, j < n → w.cell? (a.add (j * 2)) = some (.int .i64 (hiW (l.getD j 0))) ∧ w.cell? (a.add (j * 2 + 1)) = some (.int .u64 (loW (l.getD j 0)))
theorem int_eq' {k : IntKind} {a b : Int} (h : a = b) : Value.int k a = Value.int k b := by rw [h]
theorem add_block (a : Addr) (k : Nat) : (a.add k).block = a.block := by unfold Addr.add; split <;> rfl
theorem Ws.below {w w' : World} {A : Option Addr} {n c : Nat} {l : List Int} (h : Ws w A n c l) (hb : Below w.heap.size w w') : Ws w' A n c l :=
  ⟨h.len, h.cap, h.max, h.wide, fun hn => by
    obtain ⟨a, e, hg, hc⟩ := h.cells hn
    refine ⟨a, e, Nat.lt_of_lt_of_le hg hb.size, fun j hj => ?_⟩
    obtain ⟨h1, h2⟩ := hc j hj
    exact ⟨(hb.cell (by rw [add_block]; exact hg)).trans h1, (hb.cell (by rw [add_block]; exact hg)).trans h2⟩⟩

/-- What holds at the head of a round of Sum. -/
def SumRel (w : World) (n : Nat) (l : List Int) (v4 v5 v6 v13 : Value) (W : World) : Prop :=
  ∃ (i : Nat) (s : Int), i ≤ n ∧ s = (l.take i).sum ∧ v4 = .int .u64 (loW s) ∧ v5 = .int .u64 (hiW s % 18446744073709551616) ∧ v6 = .int .i64 (s / 340282366920938463463374607431768211456) ∧ v13 = .int .i64 i ∧
    -((i : Int)) ≤ s / 340282366920938463463374607431768211456 ∧ s / 340282366920938463463374607431768211456 ≤ i ∧
    Pair W w.heap.size (.int .i64 0) (.int .u64 0) ∧ Below w.heap.size w W

theorem add_split (a : Addr) (k : Nat) : a.add (k + 1) = ⟨(a.add k).block, (a.add k).off + 1, none⟩ := by
  unfold Addr.add
  by_cases h : k = 0
  · subst h; simp
  · simp [h]; omega
theorem take_sum {l : List Int} {i : Nat} (h : i < l.length) : (l.take (i + 1)).sum = (l.take i).sum + l.getD i 0 := by
  rw [List.take_succ_eq_append_getElem h, List.sum_append, List.getD_eq_getElem?_getD, List.getElem?_eq_getElem h]
  simp
theorem getD_mem {l : List Int} {i : Nat} (h : i < l.length) : l.getD i 0 ∈ l := by
  rw [List.getD_eq_getElem?_getD, List.getElem?_eq_getElem h]
  exact List.getElem_mem h

/-- the number of its three parts -/
theorem three_parts (s : Int) : s = loW s + (hiW s % 18446744073709551616) * 18446744073709551616 + s / 340282366920938463463374607431768211456 * 340282366920938463463374607431768211456 := by
  unfold loW hiW; omega
theorem parts_of (s L H T : Int) (h : s = L + H * 18446744073709551616 + T * 340282366920938463463374607431768211456) (h1 : 0 ≤ L) (h2 : L < 18446744073709551616) (h3 : 0 ≤ H) (h4 : H < 18446744073709551616) :
    loW s = L ∧ hiW s % 18446744073709551616 = H ∧ s / 340282366920938463463374607431768211456 = T := by
  unfold loW hiW; omega

set_option maxRecDepth 100000 in
set_option maxHeartbeats 2000000 in
theorem wideSum (A : Option Addr) (n c : Nat) (l : List Int) (w : World) (h : Ws w A n c l) (hn : n ≤ 1000000) :
    Calls Try.prog 56 #[.slice A n c] w (RetWE w l.sum) := by
  go_enter Try.func56, Try.ntmps56
  go_wp2
  have P := Pair.new w (.int .i64 0) (.int .u64 0) 24
  have HB := below_box w (.cells #[.int .i64 0, .int .u64 0] 24)
  have HH := Lib.hid (h.below HB)
  have HL := Lib.hid h
  clear h
  generalize w.alloc (.cells #[.int .i64 0, .int .u64 0] 24) = w0 at *
  go_loopw [4, 5, 6, 13] (fun v4 v5 v6 v13 wr => SumRel w n l v4 v5 v6 v13 wr) (fun _ _ _ i _ => n - (intOf i).toNat)
  case atStart => exact ⟨0, 0, Nat.zero_le _, rfl, rfl, rfl, rfl, rfl, by decide, by decide, P, HB⟩
  case round =>
    obtain ⟨i, s, hi, hs, rfl, rfl, rfl, rfl, t1, t2, P', HB'⟩ := hrel
    clear P HB
    have HS := Lib.hid hs
    clear hs
    by_cases hlt : i < n
    · have h2 := HL.out.below HB'
      obtain ⟨a, rfl, hg, hc⟩ := h2.cells (by omega)
      obtain ⟨c0, c1⟩ := hc i hlt
      have HT := Lib.hid (take_sum (l := l) (i := i) (by rw [HL.out.len]; exact hlt))
      have hz := h2.wide _ (getD_mem (l := l) (i := i) (by rw [HL.out.len]; exact hlt))
      clear h2 hc
      generalize l.getD i 0 = z at *
      have c2 := c1
      rw [add_split] at c2
      obtain ⟨z1, z2, z3, z4⟩ := halves hz
      have hp := three_parts s
      have q0 : 0 ≤ loW s := by unfold loW; omega
      have q1 : loW s < 18446744073709551616 := by unfold loW; omega
      have q2 : 0 ≤ hiW s % 18446744073709551616 := by omega
      have q3 : hiW s % 18446744073709551616 < 18446744073709551616 := by omega
      have zu : IntKind.u64.wrap (hiW z) = hiW z % 18446744073709551616 := IntKind.wrap_u64 _
      have HN := Lib.hid (parts_of (s + z))
      generalize loW s = L at *
      generalize hiW s % 18446744073709551616 = H at *
      generalize s / 340282366920938463463374607431768211456 = T at *
      generalize hiW z = Zh at *
      generalize loW z = Zl at *
      obtain ⟨U, hU⟩ : ∃ U : Int, U = Zh % 18446744073709551616 := ⟨_, rfl⟩
      rw [← hU] at zu
      obtain ⟨C, hC⟩ : ∃ C : Int, C = (L + Zl) / 18446744073709551616 := ⟨_, rfl⟩
      obtain ⟨L2, hL2⟩ : ∃ X : Int, X = (L + Zl) % 18446744073709551616 := ⟨_, rfl⟩
      obtain ⟨K, hK⟩ : ∃ K : Int, K = (H + U + C) / 18446744073709551616 := ⟨_, rfl⟩
      obtain ⟨H2, hH2⟩ : ∃ X : Int, X = (H + U + C) % 18446744073709551616 := ⟨_, rfl⟩
      obtain ⟨M, hM⟩ : ∃ M : Int, M = Zh / 9223372036854775808 := ⟨_, rfl⟩
      unfold In64 at z1
      have u0 : 0 ≤ U := by omega
      have u1 : U < 18446744073709551616 := by omega
      have k0 : 0 ≤ C := by omega
      have k1 : C ≤ 1 := by omega
      have k2 : 0 ≤ K := by omega
      have k3 : K ≤ 1 := by omega
      have k4 : -1 ≤ M := by omega
      have k5 : M ≤ 0 := by omega
      have A1 : ∀ W, (callFunc 65 #[.int .u64 L, .int .u64 Zl, .int .u64 0]).run Try.prog W = .ok (.value (.tuple #[.int .u64 L2, .int .u64 C])) W := fun W => by rw [hL2, hC]; exact add64_0 L Zl q0 z2 W
      have A2 : ∀ W, (callFunc 65 #[.int .u64 H, .int .u64 U, .int .u64 C]).run Try.prog W = .ok (.value (.tuple #[.int .u64 H2, .int .u64 K])) W := fun W => by rw [hH2, hK]; exact add64 H U C q2 u0 k0 k1 W
      have F := Lib.hid (HN.out L2 H2 (T + (K + M)) (by omega) (by omega) (by omega) (by omega) (by omega))
      have hM' : Zh / 9223372036854775808 = M := hM.symm
      clear hp HN hU hC hL2 hK hH2 hM hz z4
      have D := Pair.new wr (.int .i64 Zh) (.int .u64 Zl) 24
      have P2 := P'.below (below_box wr (.cells #[.int .i64 Zh, .int .u64 Zl] 24))
      have HB2 := below_thru HB' (below_box wr (.cells #[.int .i64 Zh, .int .u64 Zl] 24))
      go_wp2_with (first | simp only [A1] | simp only [A2])
      go_roundw
      case rel =>
        obtain ⟨f1, f2, f3⟩ := F.out
        refine ⟨i + 1, s + z, by omega, by rw [HT.out, ← HS.out], ?_, ?_, ?_, int_eq' (by omega), by rw [f3]; omega, by rw [f3]; omega, P2, HB2⟩
        · rw [f1]
        · rw [f2]
        · rw [f3]
      case measure => simp only [intOf]; omega
    · obtain ⟨_, d0, d1, e0, e1⟩ := id P'
      have hs : s = l.sum := by rw [HS.out, List.take_of_length_le (by rw [HL.out.len]; omega)]
      have q1 : 0 ≤ hiW s % 18446744073709551616 := by omega
      have HI := Lib.hid (show InW s → wrap64 (hiW s % 18446744073709551616) = hiW s ∧ s / 340282366920938463463374607431768211456 = hiW s / 9223372036854775808 by unfold InW two127 wrap64 hiW; omega)
      have HO := Lib.hid (show ¬ InW s → ¬ (s / 340282366920938463463374607431768211456 = wrap64 (hiW s % 18446744073709551616) / 9223372036854775808) by unfold InW two127 wrap64 hiW; omega)
      have E1 := Lib.hid hs
      clear hs
      generalize hT : s / 340282366920938463463374607431768211456 = T at *
      generalize hG : hiW s % 18446744073709551616 = G at *
      generalize hV : wrap64 G = V at *
      clear hT hG
      by_cases hw : InW s
      · obtain ⟨f1, f2⟩ := HI.out hw
        have HV := Lib.hid (show hv s = V ∧ lv s = loW s ∧ ev s = 0 by unfold hv lv ev; rw [if_pos hw, if_pos hw, if_pos hw, f1]; exact ⟨rfl, rfl, rfl⟩)
        rw [← f1] at f2
        clear f1 hw
        have f2' : (T != V / 9223372036854775808) = false := by rw [f2]; simp
        have f3 := f2.symm
        clear f2
        go_wp2
        have P2 := (P'.self2 (.int .i64 V) (.int .u64 (loW s))).below (below_box _ (.cells #[.int .i64 V, .int .u64 (loW s)] 24))
        have HB3 := below_thru ((HB'.setCell (p := ⟨w.heap.size, 0, none⟩) (Nat.le_refl _) (.int .i64 V)).setCell (p := ⟨w.heap.size, 1, none⟩) (Nat.le_refl _) (.int .u64 (loW s))) (below_box _ (.cells #[.int .i64 V, .int .u64 (loW s)] 24))
        exact bodyPost_ret (v := .tuple #[.agg #[.int .i64 V, .int .u64 (loW s)], .int .i64 0]) (by simp [results, Try.results56, go_sem, P2.c0, P2.c1]) rfl ⟨by rw [← E1.out, HV.out.1, HV.out.2.1, HV.out.2.2], HB3⟩
      · have f2 := HO.out hw
        have HV := Lib.hid (show hv s = 0 ∧ lv s = 0 ∧ ev s = 2 by unfold hv lv ev; rw [if_neg hw, if_neg hw, if_neg hw]; exact ⟨rfl, rfl, rfl⟩)
        clear hw
        have f2' : (T != V / 9223372036854775808) = true := by simp [f2]
        go_wp2
        have P2 := (P'.self2 (.int .i64 0) (.int .u64 0)).below (below_box _ (.cells #[.int .i64 V, .int .u64 (loW s)] 24))
        have HB3 := below_thru ((HB'.setCell (p := ⟨w.heap.size, 0, none⟩) (Nat.le_refl _) (.int .i64 0)).setCell (p := ⟨w.heap.size, 1, none⟩) (Nat.le_refl _) (.int .u64 0)) (below_box _ (.cells #[.int .i64 V, .int .u64 (loW s)] 24))
        exact bodyPost_ret (v := .tuple #[.agg #[.int .i64 0, .int .u64 0], .int .i64 2]) (by simp [results, Try.results56, go_sem, P2.c0, P2.c1]) rfl ⟨by rw [← E1.out, HV.out.1, HV.out.2.1, HV.out.2.2], HB3⟩
end Go.Proofs.Ytnopgdheffnfdaa
