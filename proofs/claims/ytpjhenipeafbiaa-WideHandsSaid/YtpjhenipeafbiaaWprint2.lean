/- What package wide's Text answers: the decimal text of any wide number. -/
import Derived.Test.YtpjhenipeafbiaaWprint
namespace Go.Proofs.Ytpjhenipeafbiaa
open Go.RowKit

/-- A block of forty bytes: from number m on they are D. -/
structure Buf (W : World) (b m : Nat) (D : List UInt8) : Prop where
  lt : b < W.heap.size
  len : m + D.length = 40
  fz : ∀ j, j < 40 → W.frozen? ⟨b, j, none⟩ = false
  ex : ∀ j, j < 40 → ∃ v, W.cell? ⟨b, j, none⟩ = some v
  tail : ∀ j (h : j < D.length), W.cell? ⟨b, m + j, none⟩ = some (.int .u8 (D[j].toNat))
theorem Buf.below {W W' : World} {b m : Nat} {D : List UInt8} (h : Buf W b m D) (k : Below W.heap.size W W') : Buf W' b m D :=
  ⟨Nat.lt_of_lt_of_le h.lt k.size, h.len, fun j hj => (k.frozen (p := ⟨b, j, none⟩) h.lt).trans (h.fz j hj), fun j hj => by
    obtain ⟨v, hv⟩ := h.ex j hj
    exact ⟨v, (k.cell (p := ⟨b, j, none⟩) h.lt).trans hv⟩, fun j hj => (k.cell (p := ⟨b, m + j, none⟩) h.lt).trans (h.tail j hj)⟩
theorem Buf.new (W : World) (t : TypeId) : Buf (W.alloc (.cells (Array.replicate 40 (.int .u8 0)) t)) W.heap.size 40 [] := by
  refine ⟨by simp, rfl, fun j hj => by simp, fun j hj => ⟨.int .u8 0, ?_⟩, fun j hj => by simp at hj⟩
  simp [hj]
theorem Buf.put {W : World} {b m : Nat} {D : List UInt8} (h : Buf W b (m + 1) D) (x : UInt8) : Buf (W.setCell ⟨b, m, none⟩ (.int .u8 x.toNat)) b m (x :: D) := by
  have hm := h.len
  refine ⟨by simpa [World.setCell] using h.lt, by simp; omega, fun j hj => by simp [h.fz j hj], fun j hj => ?_, fun j hj => ?_⟩
  · by_cases e : j = m
    · subst e
      obtain ⟨v, hv⟩ := h.ex j hj
      exact ⟨_, World.cell?_setCell_same _ _ _ hv⟩
    · obtain ⟨v, hv⟩ := h.ex j hj
      refine ⟨v, ?_⟩
      rw [World.cell?_setCell_other _ _ _ _ (by simp <;> omega)]
      exact hv
  · rcases j with _ | j
    · obtain ⟨v, hv⟩ := h.ex m (by omega)
      exact World.cell?_setCell_same _ _ _ hv
    · rw [World.cell?_setCell_other _ _ _ _ (by simp)]
      have := h.tail j (by simpa using hj)
      rw [show m + 1 + j = m + (j + 1) from by omega] at this
      simpa using this
theorem Buf.text {W : World} {b m : Nat} {D : List UInt8} (h : Buf W b m D) (L : Nat) (hL : L = D.length) (c : Nat) :
    (convert 64 9 (.slice (some ⟨b, m, none⟩) L c)).run Try.prog W = .ok (.string ⟨D.toArray⟩) W := by
  subst hL
  refine run_convert_bytes_back W 64 9 5 ⟨b, m, none⟩ c D Try.underlying64 Try.underlying5 Try.underlying9 fun j hj => ?_
  have e : (⟨b, m, none⟩ : Addr).add j = ⟨b, m + j, none⟩ := by unfold Addr.add; split <;> simp_all
  rw [e]
  exact h.tail j hj

theorem buf_len : Try.prog.arrayLen 82 = 40 := by kernel_rfl
theorem buf_slice (W : World) (b m : Nat) (l : Int) (hl : l = m) (hm : m < 40) :
    (Instr.sliceAt 82 (.pointer (some ⟨b, 0, none⟩)) (some (.int .i64 l)) none none).run Try.prog W = .ok (.slice (some ⟨b, m, none⟩) (40 - m) (40 - m)) W := by
  subst hl
  rw [run_sliceAt_array_l W 82 ⟨b, 0, none⟩ (by kernel_rfl) .i64 (m : Int) (by omega) (by rw [buf_len]; omega), buf_len]
  have hs : ∀ W', (sizeOf (Try.prog.elem 82)).run Try.prog W' = .ok 1 W' := fun W' => by kernel_rfl
  rw [hs]
  have e : (⟨b, 0, none⟩ : Addr).add (m * 1) = ⟨b, m, none⟩ := by unfold Addr.add; split <;> simp_all
  simp only [Result.andThen, slicedAt, Int.toNat_natCast, e]
  rw [if_neg (by omega)]

/-- What holds at the head of a round of Text. -/
def TxtRel (w : World) (z : Int) (v4 v5 v6 : Value) (W : World) : Prop :=
  ∃ (m N : Nat) (D : List UInt8), v4 = .int .i64 m ∧ v5 = .int .u64 ((N / 18446744073709551616 : Nat) : Int) ∧ v6 = .int .u64 ((N % 18446744073709551616 : Nat) : Int) ∧
    1 ≤ m ∧ m ≤ 40 ∧ N < 10 ^ (m - 1) ∧ N < 340282366920938463463374607431768211456 ∧ dec z.natAbs = (if N = 0 ∧ m < 40 then D else dec N ++ D) ∧
    Buf W (w.heap.size + 1) m D ∧ Pair W w.heap.size (.int .i64 (hiW z)) (.int .u64 (loW z)) ∧ Below w.heap.size w W

theorem tenth_nat (N : Nat) (hN : N < 340282366920938463463374607431768211456) (W : World) :
    Calls Try.prog 52 #[.int .u64 ((N / 18446744073709551616 : Nat) : Int), .int .u64 ((N % 18446744073709551616 : Nat) : Int)] W
      (RetV W (.tuple #[.int .u64 ((N / 10 / 18446744073709551616 : Nat) : Int), .int .u64 ((N / 10 % 18446744073709551616 : Nat) : Int), .int .u64 ((N % 10 : Nat) : Int)])) := by
  have h := wideTenth ((N / 18446744073709551616 : Nat) : Int) ((N % 18446744073709551616 : Nat) : Int) (by omega) (by omega) (by omega) (by omega) W
  have e1 : ((N / 18446744073709551616 : Nat) : Int) / 10 = ((N / 10 / 18446744073709551616 : Nat) : Int) := by omega
  have e2 : (((N / 18446744073709551616 : Nat) : Int) % 10 * 18446744073709551616 + ((N % 18446744073709551616 : Nat) : Int)) / 10 = ((N / 10 % 18446744073709551616 : Nat) : Int) := by omega
  have e3 : (((N / 18446744073709551616 : Nat) : Int) % 10 * 18446744073709551616 + ((N % 18446744073709551616 : Nat) : Int)) % 10 = ((N % 10 : Nat) : Int) := by omega
  rw [e1, e2, e3] at h
  exact h
theorem ten39 : (10 : Nat) ^ 39 = 1000000000000000000000000000000000000000 := by decide
/-- the digits of a number that is not through yet -/
theorem dec_step {N : Nat} (x : UInt8) (hx : x = UInt8.ofNat (48 + N % 10)) (D : List UInt8) (k : Nat) :
    dec N ++ D = (if N / 10 = 0 ∧ k < 40 then x :: D else dec (N / 10) ++ x :: D) ∨ ¬ k < 40 := by
  by_cases hk : k < 40
  · left
    by_cases h : N < 10
    · rw [if_pos ⟨by omega, hk⟩, dec_small h, hx, Nat.mod_eq_of_lt h]; rfl
    · rw [if_neg (fun c => by omega), dec_big h, hx]
      simp
  · right; exact hk
theorem ten_step {N m : Nat} (h : N < 10 ^ (m + 1 - 1)) (hm : 1 ≤ m) : N / 10 < 10 ^ (m - 1) := by
  rcases m with _ | m
  · omega
  · rw [show m + 1 + 1 - 1 = m + 1 from by omega, Nat.pow_succ] at h
    rw [show m + 1 - 1 = m from by omega]
    omega

set_option maxRecDepth 100000 in
set_option maxHeartbeats 4000000 in
theorem wideText (z : Int) (h : InW z) (w : World) :
    Calls Try.prog 35 #[.agg #[.int .i64 (hiW z), .int .u64 (loW z)]] w (RetS w (decZ z)) := by
  have Z := fun W => wideSize z h W
  have ez1 := Lib.hid (show ahi z = ((z.natAbs / 18446744073709551616 : Nat) : Int) by unfold ahi; omega)
  have ez2 := Lib.hid (show alo z = ((z.natAbs % 18446744073709551616 : Nat) : Int) by unfold alo; omega)
  have hz2 := Lib.hid (show z.natAbs < 340282366920938463463374607431768211456 by unfold InW two127 at h; omega)
  have hz := Lib.hid (show z.natAbs < 10 ^ (40 - 1) by rw [show 40 - 1 = 39 from rfl, ten39]; unfold InW two127 at h; omega)
  have hsg := Lib.hid (show hiW z < 0 ↔ z < 0 by unfold hiW; omega)
  clear h
  have P := (Pair.new w (.int .i64 (hiW z)) (.int .u64 (loW z)) 24)
  have HB := below_box w (.cells #[.int .i64 (hiW z), .int .u64 (loW z)] 24)
  have B := Buf.new (w.alloc (.cells #[.int .i64 (hiW z), .int .u64 (loW z)] 24)) 82
  rw [World.size_alloc] at B
  go_enter Try.func35, Try.ntmps35
  go_wp2_with fail
  refine (Z _).mono ?_
  rintro e w1 ⟨rfl, k⟩
  replace B := B.below k
  replace P := (P.below (below_box _ _)).below k
  replace HB := below_thru (below_thru HB (below_box _ _)) k
  clear k Z
  go_wp2_with fail
  go_loopw [4, 5, 6] (fun v4 v5 v6 wr => TxtRel w z v4 v5 v6 wr) (fun v4 _ _ _ => (intOf v4).toNat)
  case atStart => exact ⟨40, z.natAbs, [], rfl, by rw [ez1.out], by rw [ez2.out], by omega, by omega, hz.out, hz2.out, by simp, B, P, HB⟩
  case round =>
    obtain ⟨m, N, D, rfl, rfl, rfl, hm1, hm2, hN, hN2, hD, B', P', HB'⟩ := hrel
    clear B P HB
    by_cases hgo : N = 0 ∧ m < 40
    · rw [if_pos hgo] at hD
      obtain ⟨rfl, hm3⟩ := hgo
      have HD := Lib.hid hD
      clear hN hN2 hD
      have m40 : ((m : Int) == 40) = false := by rw [beq_eq_false_iff_ne]; omega
      obtain ⟨_, p0, p1, _, _⟩ := id P'
      have hBl := B'.len
      have hsz := B'.lt
      rcases m with _ | m
      · omega
      by_cases hneg : hiW z < 0
      · have hd := Lib.hid (show decZ z = 45 :: D by unfold decZ; rw [if_pos (hsg.out.1 hneg), HD.out])
        have B3 := B'.put 45
        have cv := B3.text (40 - m) (by simp; omega)
        rw [show (((45 : UInt8).toNat : Nat) : Int) = 45 from rfl] at cv
        have sl := fun W => buf_slice W (w.heap.size + 1) m m rfl (by omega)
        obtain ⟨v, hv⟩ := B'.ex m (by omega)
        have hf := B'.fz m (by omega)
        have HB3 := HB'.setCell (p := ⟨w.heap.size + 1, m, none⟩) (by show _ ≤ w.heap.size + 1; omega) (.int .u8 45)
        clear B3 B'
        go_wp2_with (simp only [sl])
        go_ret
        exact ⟨by rw [hd.out]; rfl, HB3⟩
      · have hd := Lib.hid (show decZ z = D by unfold decZ; rw [if_neg (fun c => hneg (hsg.out.2 c)), HD.out])
        have cv := B'.text (39 - m) (by omega)
        have sl := fun W => buf_slice W (w.heap.size + 1) (m + 1) ((m : Int) + 1) (by omega) (by omega)
        rw [show 40 - (m + 1) = 39 - m from by omega] at sl
        clear B'
        go_wp2_with (simp only [sl])
        go_ret
        exact ⟨by rw [hd.out]; rfl, HB'⟩
    · rw [if_neg hgo] at hD
      have hways : m = 40 ∨ (m < 40 ∧ N / 18446744073709551616 ≠ 0) ∨ (m < 40 ∧ N / 18446744073709551616 = 0 ∧ N % 18446744073709551616 ≠ 0) := by omega
      rcases m with _ | m
      · omega
      have hm1' : 1 ≤ m := by
        rcases m with _ | m
        · simp at hN; omega
        · omega
      have T := fun W => tenth_nat N (by omega) W
      have hd9 : ((N % 10 : Nat) : Int) ≤ 9 := by omega
      obtain ⟨x, hx⟩ : ∃ x : UInt8, x = UInt8.ofNat (48 + N % 10) := ⟨_, rfl⟩
      have hx' : 48 + ((N % 10 : Nat) : Int) = (x.toNat : Int) := by rw [hx, UInt8.toNat_ofNat']; omega
      have hx2 : (x.toNat : Int) ≤ 57 := by omega
      have B2 := fun W (k : Below wr.heap.size wr W) => (B'.below k).put x
      have HS := Lib.hid (show dec z.natAbs = (if N / 10 = 0 ∧ m < 40 then x :: D else dec (N / 10) ++ x :: D) by rw [hD]; exact (dec_step x hx D m).resolve_right (by omega))
      have HT := Lib.hid (ten_step hN hm1')
      have HN2 := Lib.hid (show N / 10 < 340282366920938463463374607431768211456 by omega)
      obtain ⟨v, hv⟩ := B'.ex m (by omega)
      have hf := B'.fz m (by omega)
      have hlt := B'.lt
      have hw : (((m : Int) + 1) == 40) = true ∨ ((((m : Int) + 1) == 40) = false ∧ (((N / 18446744073709551616 : Nat) : Int) != 0) = true) ∨ ((((m : Int) + 1) == 40) = false ∧ ((N / 18446744073709551616 : Nat) : Int) = 0 ∧ (((N % 18446744073709551616 : Nat) : Int) != 0) = true) := by
        simp only [beq_eq_false_iff_ne, beq_iff_eq, bne_iff_ne]; omega
      clear hD hx hgo hN hN2 hways
      generalize ((N / 18446744073709551616 : Nat) : Int) = n1 at *
      generalize ((N % 18446744073709551616 : Nat) : Int) = n2 at *
      generalize N % 10 = d at *
      generalize N / 10 = N' at *
      rcases hw with g1 | ⟨g1, g2⟩ | ⟨g1, rfl, g3⟩
      all_goals
        go_wp2_with fail
        refine (T _).mono ?_
        rintro e w3 ⟨rfl, k⟩
        have B3 := B2 _ k
        have P3 := (P'.below k).far (b' := w.heap.size + 1) (by omega) m (.int .u8 x.toNat)
        have HB3 := (below_thru HB' k).setCell (p := ⟨w.heap.size + 1, m, none⟩) (by show _ ≤ w.heap.size + 1; omega) (.int .u8 x.toNat)
        have hv3 := (k.cell (p := ⟨w.heap.size + 1, m, none⟩) hlt).trans hv
        have hf3 := (k.frozen (p := ⟨w.heap.size + 1, m, none⟩) hlt).trans hf
        clear k B2 T
        go_wp2
        go_roundw
        case rel => exact ⟨m, N', x :: D, rfl, rfl, rfl, hm1', by omega, HT.out, HN2.out, HS.out, B3, P3, HB3⟩
        case measure => simp only [intOf]; omega
end Go.Proofs.Ytpjhenipeafbiaa
