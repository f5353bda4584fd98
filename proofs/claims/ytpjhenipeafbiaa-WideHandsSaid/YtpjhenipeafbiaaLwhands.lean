/- The walk of WideHands: at any number of 64 bits and any other of 32 it returns true; what was there is as it was. -/
import Derived.Test.YtpjhenipeafbiaaWprs
import Derived.Test.YtpjhenipeafbiaaWkeep
namespace Go.Proofs.Ytpjhenipeafbiaa
open Go.RowKit

/-- one byte made a text -/
theorem hand_byte (W : World) (x : Int) (d : UInt8) (h : x = d.toNat) :
    (convert 64 9 (.slice (some ⟨W.heap.size, 0, none⟩) 1 1)).run Try.prog (W.alloc (.cells #[.int .u8 x] 5)) = .ok (.string ⟨[d].toArray⟩) (W.alloc (.cells #[.int .u8 x] 5)) := by
  refine run_convert_bytes_back (W.alloc (.cells #[.int .u8 x] 5)) 64 9 5 ⟨W.heap.size, 0, none⟩ 1 [d] Try.underlying64 Try.underlying5 Try.underlying9 ?_
  intro j hj
  obtain rfl : j = 0 := by simp at hj; omega
  have ea : ((⟨W.heap.size, 0, none⟩ : Addr).add 0) = ⟨W.heap.size, 0, none⟩ := by unfold Addr.add; split <;> simp_all
  rw [ea]
  simp [h]

/-- the quotient's digits so far: none while it is 0, unless the number is through -/
def outH (q k L : Nat) : List UInt8 := if q = 0 ∧ k < L then [] else dec q
theorem outH_step {q Q k L : Nat} (hk : k < L) (hQ : Q < 10) : outH q k L ++ [UInt8.ofNat (48 + Q)] = dec (q * 10 + Q) := by
  unfold outH
  by_cases h : q = 0
  · subst h
    rw [if_pos ⟨rfl, hk⟩, dec_small (by omega)]
    simp
  · rw [if_neg (fun c => h c.1), dec_big (n := q * 10 + Q) (by omega)]
    rw [show (q * 10 + Q) / 10 = q by omega, show (q * 10 + Q) % 10 = Q by omega]
theorem outH_len {q k L : Nat} (h : q < 10 ^ 39) : (outH q k L).length ≤ 39 := by
  unfold outH
  split
  · simp
  · exact dec_len (k := 38) h
theorem hand_div {N d n : Nat} (hn : 0 < n) (hd : d ≤ 9) : (N * 10 + d) / n = N / n * 10 + (N % n * 10 + d) / n ∧ (N * 10 + d) % n = (N % n * 10 + d) % n ∧ (N % n * 10 + d) / n < 10 := by
  have e : N * 10 + d = n * (N / n * 10) + (N % n * 10 + d) := by
    have h := Nat.div_add_mod N n
    have h2 : n * (N / n * 10) = n * (N / n) * 10 := by rw [Nat.mul_assoc]
    omega
  have hlt : N % n < n := Nat.mod_lt _ hn
  refine ⟨?_, ?_, ?_⟩
  · rw [e, Nat.mul_add_div hn]
  · rw [e, Nat.mul_add_mod]
  · rw [Nat.div_lt_iff_lt_mul hn]; omega

/-- What holds at the head of a round of the division by hand. -/
def HandRel (w : World) (n : Nat) (D : List UInt8) (v8 v9 v10 : Value) (W : World) : Prop :=
  ∃ k : Nat, k ≤ D.length ∧ v10 = .int .i64 k ∧ v8 = .int .i64 ((accD 0 (D.take k) % n : Nat) : Int) ∧ v9 = .string ⟨(outH (accD 0 (D.take k) / n) k D.length).toArray⟩ ∧ Below w.heap.size w W

set_option maxRecDepth 100000 in
set_option maxHeartbeats 8000000 in
theorem wideHands_walk (a y : Int) (ha : In64 a) (hy0 : 0 ≤ y) (w : World) :
    Calls Try.prog 9 #[.int .i64 a, .int .u32 y] w (RetV w (.bool true)) := by
  have hm : y.tmod 1000000 = y % 1000000 := Int.tmod_eq_emod_of_nonneg hy0
  obtain ⟨n, hn⟩ : ∃ n : Nat, (n : Int) = y % 1000000 + 1 := ⟨(y % 1000000 + 1).toNat, by omega⟩
  have hn1 : 1 ≤ n := by omega
  have hn2 : n ≤ 1000000 := by omega
  have hzw : InW (a * n) := prod64_wide ha (by unfold In64; omega)
  have M := Lib.hid (fun W => wideMul a n ha (by unfold In64; omega) W)
  have T := Lib.hid (fun W => wideText (a * n) hzw W)
  have OA := Lib.hid (fun W => wideOf a ha W)
  have TA := Lib.hid (fun W => wideText a (inW_of_64 ha) W)
  have hbd := body_decZ (a * n)
  have habs : (a * n).natAbs = a.natAbs * n := by rw [Int.natAbs_mul, Int.natAbs_natCast]
  have hsign : (a * n < 0) ↔ a < 0 := by
    constructor
    · intro h; exact Classical.byContradiction fun c => by have := Int.mul_nonneg (a := a) (b := n) (by omega) (by omega); omega
    · intro h; have := Int.mul_neg_of_neg_of_pos (a := a) (b := n) h (by omega); exact this
  have hdlen : (dec (a * n).natAbs).length ≤ 39 := dec_len (k := 38) (by
    unfold InW two127 at hzw
    have : (10 : Nat) ^ 39 = 1000000000000000000000000000000000000000 := by decide
    rw [this]; omega)
  -- the text, and what stands behind its sign
  obtain ⟨tx, htx⟩ : ∃ tx : ByteArray, tx = ⟨(decZ (a * n)).toArray⟩ := ⟨_, rfl⟩
  have HTX := Lib.hid htx.symm
  have hlt : tx.data.toList = decZ (a * n) := by rw [htx]
  have hxlen : tx.size = (decZ (a * n)).length := by rw [← hlt]; simp
  obtain ⟨D, hD⟩ : ∃ D : List UInt8, D = dec (a * n).natAbs := ⟨_, rfl⟩
  rw [← hD] at hbd hdlen
  have hDne : 0 < D.length := by
    rcases hl : D with _ | ⟨x, r⟩
    · rw [hD] at hl; exact absurd hl (dec_ne _)
    · simp
  have hDig : ∀ k (h : k < D.length), 48 ≤ (D[k]).toNat ∧ (D[k]).toNat ≤ 57 := fun k h => dec_digit (a * n).natAbs _ (by rw [← hD]; exact List.getElem_mem h)
  have hacc : accD 0 D = a.natAbs * n := by rw [hD, accD_dec, habs]
  have hpre : ∀ k, accD 0 (D.take k) / n < 10 ^ 39 := fun k => by
    have h1 := accD_take_le D k
    have h2 : accD 0 (D.take k) / n ≤ accD 0 (D.take k) := Nat.div_le_self _ _
    have : (10 : Nat) ^ 39 = 1000000000000000000000000000000000000000 := by decide
    rw [this]
    unfold InW two127 at hzw
    omega
  have hend1 : accD 0 D % n = 0 := by rw [hacc]; exact Nat.mul_mod_left _ _
  have hend2 : accD 0 D / n = a.natAbs := by rw [hacc]; exact Nat.mul_div_cancel _ (by omega)
  have HDIG := Lib.hid hDig
  have HPRE := Lib.hid hpre
  have HE1 := Lib.hid hend1
  have HE2 := Lib.hid hend2
  have HBD := Lib.hid hbd
  have HSG := Lib.hid hsign
  have hx1 : tx.size ≤ 41 := by rw [hxlen]; exact decZ_len (k := 39) (by
    unfold InW two127 at hzw
    have : (10 : Nat) ^ 40 = 10000000000000000000000000000000000000000 := by decide
    rw [this]; omega)
  -- the text from the sign on, in both ways
  have hcut : (a < 0 ∧ ∃ h : 0 < tx.size, (tx[0].toNat : Int) = 45 ∧ (tx.extract 1 tx.size).data.toList = D) ∨ (¬ a < 0 ∧ ∃ h : 0 < tx.size, ((tx[0].toNat : Int) == 45) = false ∧ tx.data.toList = D) := by
    have hb := hbd.1
    have hs := hbd.2
    rw [← hlt] at hb hs
    rcases hl : tx.data.toList with _ | ⟨x, r⟩
    · rw [hl] at hb
      rw [show body [] = [] from rfl] at hb
      rw [← hb] at hDne
      simp at hDne
    · have h0 : 0 < tx.size := by
        have : tx.data.toList.length = tx.size := by simp
        rw [hl] at this
        simp at this
        omega
      have hx : tx[0] = x := by
        have h1 : tx.data.toList[0]? = some tx[0] := by rw [List.getElem?_eq_getElem (by simpa using h0)]; rfl
        rw [hl] at h1
        simpa using h1.symm
      by_cases ha0 : a < 0
      · left
        have h45 : x = 45 := by
          rw [hl, decide_eq_true (hsign.2 ha0)] at hs
          unfold sgnb at hs
          simpa using hs
        subst h45
        refine ⟨ha0, h0, by rw [hx]; rfl, ?_⟩
        rw [cut_tail tx r hl, ← hb, hl]
        rfl
      · right
        have h45 : x ≠ 45 := by
          rw [hl, decide_eq_false (fun c => ha0 (hsign.1 c))] at hs
          unfold sgnb at hs
          simpa using hs
        refine ⟨ha0, h0, ?_, ?_⟩
        · rw [hx, beq_eq_false_iff_ne]
          intro c
          exact h45 (UInt8.toNat_inj.1 (by show x.toNat = 45; omega))
        · rw [← hb, hl]
          unfold body
          simp [h45]
  clear hbd habs hsign htx hlt hxlen hD hDig hacc hpre hend1 hend2 hzw
  rw [show y % 1000000 = (n : Int) - 1 from by omega] at hm
  have hn3 : (0 : Int) ≤ (n : Int) - 1 := by omega
  have hn4 : (n : Int) - 1 ≤ 999999 := by omega
  have hn5 : IntKind.u32.wrap ((n : Int) - 1) = (n : Int) - 1 := IntWalk.u32_in _ (by omega)
  have hn6 : (n : Int) - 1 + 1 = n := by omega
  clear hn hy0
  rcases hcut with ⟨hneg, h0, h45, hD⟩ | ⟨hneg, h0, h45, hD⟩
  · go_enter Try.func9, Try.ntmps9
    go_wp2_with fail
    refine (M.out _).mono ?_
    rintro e w1 ⟨rfl, k1⟩
    have HB := k1
    clear k1
    go_wp2_with fail
    refine (T.out _).mono ?_
    rintro e w2 ⟨rfl, k2⟩
    rw [HTX.out]
    replace HB := below_thru HB k2
    clear k2
    go_wp2_with fail
    generalize tx.extract 1 tx.size = sx at *
    have hL : D.length = sx.size := by rw [← hD]; simp
    have HL := Lib.hid hL
    have HSX := Lib.hid hD
    have hs2 : sx.size ≤ 1000 := by rw [← hL]; exact Nat.le_trans hdlen (by decide)
    clear hL hD h45 h0 hx1
    have hnn : ¬ ((n : Int) = 0) := by omega
    have hnb : ((n : Int) == 0) = false := by rw [beq_eq_false_iff_ne]; exact hnn
    go_loopw [8, 9, 10] (fun v8 v9 v10 wr => HandRel w n D v8 v9 v10 wr) (fun _ _ i _ => sx.size - (intOf i).toNat)
    case atStart => exact ⟨0, Nat.zero_le _, rfl, by rw [List.take_zero]; show _ = Value.int .i64 ((0 % n : Nat) : Int); rw [Nat.zero_mod]; rfl, by rw [List.take_zero]; show _ = Value.string ⟨(outH (0 / n) 0 D.length).toArray⟩; rw [Nat.zero_div]; unfold outH; rw [if_pos ⟨rfl, hDne⟩], HB⟩
    case round =>
      obtain ⟨k, hk, rfl, rfl, rfl, HBr⟩ := hrel
      clear HB
      rw [HL.out] at hk
      by_cases hlt : k < sx.size
      · have hget : D[k]'(by rw [HL.out]; exact hlt) = sx[k] := by
          have h1 : sx.data.toList[k]? = some sx[k] := by rw [List.getElem?_eq_getElem (by simpa using hlt)]; rfl
          rw [HSX.out, List.getElem?_eq_getElem (by rw [HL.out]; exact hlt)] at h1
          simpa using h1
        obtain ⟨x1, x2⟩ := HDIG.out k (by rw [HL.out]; exact hlt)
        rw [hget] at x1 x2
        have htake : accD 0 (D.take (k + 1)) = accD 0 (D.take k) * 10 + (sx[k].toNat - 48) := by
          rw [List.take_succ_eq_append_getElem (by rw [HL.out]; exact hlt), hget]
          exact accD_snoc 0 _ _
        have hpk := HPRE.out k
        obtain ⟨g1, g2, g3⟩ := hand_div (N := accD 0 (D.take k)) (d := sx[k].toNat - 48) (n := n) (by omega) (by omega)
        rw [← htake] at g1 g2
        have hr : accD 0 (D.take k) % n < n := Nat.mod_lt _ (by omega)
        have G1 := Lib.hid g1
        have G2 := Lib.hid g2
        clear htake hget g1 g2
        generalize hN2 : accD 0 (D.take (k + 1)) = N2 at *
        have HN2 := Lib.hid hN2
        clear hN2
        generalize accD 0 (D.take k) % n = r at *
        generalize hqq : accD 0 (D.take k) / n = q at *
        have hX : ((sx[k].toNat - 48 : Nat) : Int) = (sx[k].toNat : Int) - 48 := by omega
        have y1 : (48 : Int) ≤ (sx[k].toNat : Int) := by omega
        have y2 : (sx[k].toNat : Int) ≤ 57 := by omega
        have w8 : IntKind.u8.wrap ((sx[k].toNat : Int) - 48) = (sx[k].toNat : Int) - 48 := IntWalk.u8_in _ (by omega)
        have e1 : ((r : Int) * 10 + ((sx[k].toNat : Int) - 48)).tdiv n = (((r * 10 + (sx[k].toNat - 48)) / n : Nat) : Int) := by
          rw [Int.tdiv_eq_ediv_of_nonneg (by omega), Int.natCast_ediv, Int.natCast_add, hX]; rfl
        have e2 : ((r : Int) * 10 + ((sx[k].toNat : Int) - 48)).tmod n = (((r * 10 + (sx[k].toNat - 48)) % n : Nat) : Int) := by
          rw [Int.tmod_eq_emod_of_nonneg (by omega), Int.natCast_emod, Int.natCast_add, hX]; rfl
        have hr2 : (r * 10 + (sx[k].toNat - 48)) % n < n := Nat.mod_lt _ (by omega)
        clear hX
        generalize (r * 10 + (sx[k].toNat - 48)) / n = Q at *
        generalize (r * 10 + (sx[k].toNat - 48)) % n = r2 at *
        have e3 : ((Q : Int)).tmod 10 = Q := by rw [Int.tmod_eq_emod_of_nonneg (by omega)]; omega
        have hr' : (r : Int) ≤ 999999 := by omega
        have hr2' : (r2 : Int) ≤ 999999 := by omega
        have hQ : (Q : Int) ≤ 9 := by omega
        obtain ⟨b, hb⟩ : ∃ b : UInt8, b = UInt8.ofNat (48 + Q) := ⟨_, rfl⟩
        have cv := fun W => hand_byte W (48 + (Q : Int)) b (by rw [hb, UInt8.toNat_ofNat']; omega)
        have HO := Lib.hid (show outH q k D.length ++ [b] = dec (q * 10 + Q) by rw [hb]; exact outH_step (by rw [HL.out]; exact hlt) g3)
        have hol := outH_len (q := q) (k := k) (L := D.length) hpk
        have hoe : q ≠ 0 → outH q k D.length ≠ [] := fun h => by unfold outH; rw [if_neg (fun c => h c.1)]; exact dec_ne _
        have ho0 := Lib.hid (show q = 0 → outH q k D.length = [] from fun h => by unfold outH; rw [if_pos ⟨h, by rw [HL.out]; exact hlt⟩])
        clear hb hqq hpk g3 x1 x2
        generalize outH q k D.length = o at *
        by_cases hap : 0 < Q ∨ q ≠ 0 ∨ k + 1 = sx.size
        · have HR := Lib.hid (show outH (N2 / n) (k + 1) D.length = o ++ [b] by
            rw [HO.out, G1.out]; unfold outH; rw [if_neg (fun c => by rw [HL.out] at c; omega)])
          have hw : (0 : Int) < Q ∨ ((Q : Int) = 0 ∧ o ≠ []) ∨ ((Q : Int) = 0 ∧ o = [] ∧ k + 1 = sx.size) := by
            by_cases h1 : 0 < Q
            · left; omega
            · by_cases h2 : o = []
              · right; right
                exact ⟨by omega, h2, by rcases hap with h | h | h; exact absurd h h1; exact absurd h2 (hoe h); exact h⟩
              · right; left; exact ⟨by omega, h2⟩
          clear hap hoe
          rcases hw with hA | ⟨hB0, hB⟩ | ⟨hC0, hC, hCl⟩
          · go_wp2_with fail
            go_roundw
            case rel => exact ⟨k + 1, by rw [HL.out]; omega, int_eq' (by omega), by rw [HN2.out, G2.out], by rw [HN2.out, HR.out, ← bytes_append], below_thru HBr (below_box _ _)⟩
            case measure => simp only [intOf]; omega
          · obtain rfl : Q = 0 := by omega
            rw [show (48 : Int) + ((0 : Nat) : Int) = 48 from rfl] at cv
            rw [show ((0 : Nat) : Int) = 0 from rfl] at e1
            clear hB0 e3 hQ
            have hne1 : ((⟨o.toArray⟩ : ByteArray).toList == []) = false := by
              rw [beq_eq_false_iff_ne, ByteArray.toList_eq]; simpa using hB
            have hne2 : (o == []) = false := by rw [beq_eq_false_iff_ne]; exact hB
            have hne3 : ¬ o = [] := hB
            clear hB
            go_wp2_with fail
            go_roundw
            case rel => exact ⟨k + 1, by rw [HL.out]; omega, int_eq' (by omega), by rw [HN2.out, G2.out], by rw [HN2.out, HR.out, ← bytes_append], below_thru HBr (below_box _ _)⟩
            case measure => simp only [intOf]; omega
          · obtain rfl : Q = 0 := by omega
            rw [show (48 : Int) + ((0 : Nat) : Int) = 48 from rfl] at cv
            rw [show ((0 : Nat) : Int) = 0 from rfl] at e1
            clear hC0 e3 hQ
            subst hC
            have hlast : ((k : Int) == (sx.size : Int) - 1) = true := by rw [beq_iff_eq]; omega
            go_wp2_with fail
            go_roundw
            case rel => exact ⟨k + 1, by rw [HL.out]; omega, int_eq' (by omega), by rw [HN2.out, G2.out], by rw [HN2.out, HR.out, ← bytes_append], below_thru HBr (below_box _ _)⟩
            case measure => simp only [intOf]; omega
        · have hq0 : q = 0 := by omega
          obtain rfl : Q = 0 := by omega
          have hk1 : ¬ k + 1 = sx.size := by omega
          have HR := Lib.hid (show outH (N2 / n) (k + 1) D.length = [] by
            rw [G1.out, hq0]; unfold outH; rw [if_pos ⟨rfl, by rw [HL.out]; omega⟩])
          obtain rfl : o = [] := ho0.out hq0
          rw [show ((0 : Nat) : Int) = 0 from rfl] at e1
          have hlast : ((k : Int) == (sx.size : Int) - 1) = false := by rw [beq_eq_false_iff_ne]; omega
          clear e3 hQ hap hoe hq0
          go_wp2_with fail
          go_roundw
          case rel => exact ⟨k + 1, by rw [HL.out]; omega, int_eq' (by omega), by rw [HN2.out, G2.out], by rw [HN2.out, HR.out], HBr⟩
          case measure => simp only [intOf]; omega
      · have hend : D.take k = D := List.take_of_length_le (by rw [HL.out]; omega)
        rw [hend, HE1.out, HE2.out]
        have ho : outH a.natAbs k D.length = dec a.natAbs := by unfold outH; rw [if_neg (fun c => by rw [HL.out] at c; omega)]
        rw [ho]
        have hol : (dec a.natAbs).length ≤ 39 := dec_len (k := 38) (by
          unfold In64 at ha
          have : (10 : Nat) ^ 39 = 1000000000000000000000000000000000000000 := by decide
          rw [this]; omega)
        have hcat : (⟨#[45]⟩ : ByteArray) ++ ⟨(dec a.natAbs).toArray⟩ = ⟨(decZ a).toArray⟩ := by unfold decZ; rw [if_pos hneg, show (45 :: dec a.natAbs : List UInt8) = [45] ++ dec a.natAbs from rfl, ← bytes_append]
        obtain ⟨tz, htz⟩ : ∃ tz : ByteArray, tz = ⟨(decZ a).toArray⟩ := ⟨_, rfl⟩
        rw [← htz] at hcat
        have HTZ := Lib.hid htz.symm
    
        generalize dec a.natAbs = o at *
        clear hend ho htz
        go_wp2_with fail
        refine (alive_any _).mono ?_
        rintro e w3 ⟨rfl, k3⟩
        replace HBr := below_thru HBr k3
        clear k3
        go_wp2_with fail
        refine (OA.out _).mono ?_
        rintro e w4 ⟨rfl, k4⟩
        replace HBr := below_thru HBr k4
        clear k4
        go_wp2_with fail
        refine (TA.out _).mono ?_
        rintro e w5 ⟨rfl, k5⟩
        rw [HTZ.out]
        replace HBr := below_thru HBr k5
        clear k5
        go_wp2
        go_ret
        exact ⟨rfl, HBr⟩
  · go_enter Try.func9, Try.ntmps9
    go_wp2_with fail
    refine (M.out _).mono ?_
    rintro e w1 ⟨rfl, k1⟩
    have HB := k1
    clear k1
    go_wp2_with fail
    refine (T.out _).mono ?_
    rintro e w2 ⟨rfl, k2⟩
    rw [HTX.out]
    replace HB := below_thru HB k2
    clear k2
    go_wp2_with fail
    obtain ⟨sx, hsx⟩ : ∃ sx : ByteArray, sx = tx := ⟨_, rfl⟩
    subst hsx
    have hL : D.length = sx.size := by rw [← hD]; simp
    have HL := Lib.hid hL
    have HSX := Lib.hid hD
    have hs2 : sx.size ≤ 1000 := by rw [← hL]; exact Nat.le_trans hdlen (by decide)
    clear hL hD
    have hnn : ¬ ((n : Int) = 0) := by omega
    have hnb : ((n : Int) == 0) = false := by rw [beq_eq_false_iff_ne]; exact hnn
    go_loopw [8, 9, 10] (fun v8 v9 v10 wr => HandRel w n D v8 v9 v10 wr) (fun _ _ i _ => sx.size - (intOf i).toNat)
    case atStart => exact ⟨0, Nat.zero_le _, rfl, by rw [List.take_zero]; show _ = Value.int .i64 ((0 % n : Nat) : Int); rw [Nat.zero_mod]; rfl, by rw [List.take_zero]; show _ = Value.string ⟨(outH (0 / n) 0 D.length).toArray⟩; rw [Nat.zero_div]; unfold outH; rw [if_pos ⟨rfl, hDne⟩], HB⟩
    case round =>
      obtain ⟨k, hk, rfl, rfl, rfl, HBr⟩ := hrel
      clear HB
      rw [HL.out] at hk
      by_cases hlt : k < sx.size
      · have hget : D[k]'(by rw [HL.out]; exact hlt) = sx[k] := by
          have h1 : sx.data.toList[k]? = some sx[k] := by rw [List.getElem?_eq_getElem (by simpa using hlt)]; rfl
          rw [HSX.out, List.getElem?_eq_getElem (by rw [HL.out]; exact hlt)] at h1
          simpa using h1
        obtain ⟨x1, x2⟩ := HDIG.out k (by rw [HL.out]; exact hlt)
        rw [hget] at x1 x2
        have htake : accD 0 (D.take (k + 1)) = accD 0 (D.take k) * 10 + (sx[k].toNat - 48) := by
          rw [List.take_succ_eq_append_getElem (by rw [HL.out]; exact hlt), hget]
          exact accD_snoc 0 _ _
        have hpk := HPRE.out k
        obtain ⟨g1, g2, g3⟩ := hand_div (N := accD 0 (D.take k)) (d := sx[k].toNat - 48) (n := n) (by omega) (by omega)
        rw [← htake] at g1 g2
        have hr : accD 0 (D.take k) % n < n := Nat.mod_lt _ (by omega)
        have G1 := Lib.hid g1
        have G2 := Lib.hid g2
        clear htake hget g1 g2
        generalize hN2 : accD 0 (D.take (k + 1)) = N2 at *
        have HN2 := Lib.hid hN2
        clear hN2
        generalize accD 0 (D.take k) % n = r at *
        generalize hqq : accD 0 (D.take k) / n = q at *
        have hX : ((sx[k].toNat - 48 : Nat) : Int) = (sx[k].toNat : Int) - 48 := by omega
        have y1 : (48 : Int) ≤ (sx[k].toNat : Int) := by omega
        have y2 : (sx[k].toNat : Int) ≤ 57 := by omega
        have w8 : IntKind.u8.wrap ((sx[k].toNat : Int) - 48) = (sx[k].toNat : Int) - 48 := IntWalk.u8_in _ (by omega)
        have e1 : ((r : Int) * 10 + ((sx[k].toNat : Int) - 48)).tdiv n = (((r * 10 + (sx[k].toNat - 48)) / n : Nat) : Int) := by
          rw [Int.tdiv_eq_ediv_of_nonneg (by omega), Int.natCast_ediv, Int.natCast_add, hX]; rfl
        have e2 : ((r : Int) * 10 + ((sx[k].toNat : Int) - 48)).tmod n = (((r * 10 + (sx[k].toNat - 48)) % n : Nat) : Int) := by
          rw [Int.tmod_eq_emod_of_nonneg (by omega), Int.natCast_emod, Int.natCast_add, hX]; rfl
        have hr2 : (r * 10 + (sx[k].toNat - 48)) % n < n := Nat.mod_lt _ (by omega)
        clear hX
        generalize (r * 10 + (sx[k].toNat - 48)) / n = Q at *
        generalize (r * 10 + (sx[k].toNat - 48)) % n = r2 at *
        have e3 : ((Q : Int)).tmod 10 = Q := by rw [Int.tmod_eq_emod_of_nonneg (by omega)]; omega
        have hr' : (r : Int) ≤ 999999 := by omega
        have hr2' : (r2 : Int) ≤ 999999 := by omega
        have hQ : (Q : Int) ≤ 9 := by omega
        obtain ⟨b, hb⟩ : ∃ b : UInt8, b = UInt8.ofNat (48 + Q) := ⟨_, rfl⟩
        have cv := fun W => hand_byte W (48 + (Q : Int)) b (by rw [hb, UInt8.toNat_ofNat']; omega)
        have HO := Lib.hid (show outH q k D.length ++ [b] = dec (q * 10 + Q) by rw [hb]; exact outH_step (by rw [HL.out]; exact hlt) g3)
        have hol := outH_len (q := q) (k := k) (L := D.length) hpk
        have hoe : q ≠ 0 → outH q k D.length ≠ [] := fun h => by unfold outH; rw [if_neg (fun c => h c.1)]; exact dec_ne _
        have ho0 := Lib.hid (show q = 0 → outH q k D.length = [] from fun h => by unfold outH; rw [if_pos ⟨h, by rw [HL.out]; exact hlt⟩])
        clear hb hqq hpk g3 x1 x2
        generalize outH q k D.length = o at *
        by_cases hap : 0 < Q ∨ q ≠ 0 ∨ k + 1 = sx.size
        · have HR := Lib.hid (show outH (N2 / n) (k + 1) D.length = o ++ [b] by
            rw [HO.out, G1.out]; unfold outH; rw [if_neg (fun c => by rw [HL.out] at c; omega)])
          have hw : (0 : Int) < Q ∨ ((Q : Int) = 0 ∧ o ≠ []) ∨ ((Q : Int) = 0 ∧ o = [] ∧ k + 1 = sx.size) := by
            by_cases h1 : 0 < Q
            · left; omega
            · by_cases h2 : o = []
              · right; right
                exact ⟨by omega, h2, by rcases hap with h | h | h; exact absurd h h1; exact absurd h2 (hoe h); exact h⟩
              · right; left; exact ⟨by omega, h2⟩
          clear hap hoe
          rcases hw with hA | ⟨hB0, hB⟩ | ⟨hC0, hC, hCl⟩
          · go_wp2_with fail
            go_roundw
            case rel => exact ⟨k + 1, by rw [HL.out]; omega, int_eq' (by omega), by rw [HN2.out, G2.out], by rw [HN2.out, HR.out, ← bytes_append], below_thru HBr (below_box _ _)⟩
            case measure => simp only [intOf]; omega
          · obtain rfl : Q = 0 := by omega
            rw [show (48 : Int) + ((0 : Nat) : Int) = 48 from rfl] at cv
            rw [show ((0 : Nat) : Int) = 0 from rfl] at e1
            clear hB0 e3 hQ
            have hne1 : ((⟨o.toArray⟩ : ByteArray).toList == []) = false := by
              rw [beq_eq_false_iff_ne, ByteArray.toList_eq]; simpa using hB
            have hne2 : (o == []) = false := by rw [beq_eq_false_iff_ne]; exact hB
            have hne3 : ¬ o = [] := hB
            clear hB
            go_wp2_with fail
            go_roundw
            case rel => exact ⟨k + 1, by rw [HL.out]; omega, int_eq' (by omega), by rw [HN2.out, G2.out], by rw [HN2.out, HR.out, ← bytes_append], below_thru HBr (below_box _ _)⟩
            case measure => simp only [intOf]; omega
          · obtain rfl : Q = 0 := by omega
            rw [show (48 : Int) + ((0 : Nat) : Int) = 48 from rfl] at cv
            rw [show ((0 : Nat) : Int) = 0 from rfl] at e1
            clear hC0 e3 hQ
            subst hC
            have hlast : ((k : Int) == (sx.size : Int) - 1) = true := by rw [beq_iff_eq]; omega
            go_wp2_with fail
            go_roundw
            case rel => exact ⟨k + 1, by rw [HL.out]; omega, int_eq' (by omega), by rw [HN2.out, G2.out], by rw [HN2.out, HR.out, ← bytes_append], below_thru HBr (below_box _ _)⟩
            case measure => simp only [intOf]; omega
        · have hq0 : q = 0 := by omega
          obtain rfl : Q = 0 := by omega
          have hk1 : ¬ k + 1 = sx.size := by omega
          have HR := Lib.hid (show outH (N2 / n) (k + 1) D.length = [] by
            rw [G1.out, hq0]; unfold outH; rw [if_pos ⟨rfl, by rw [HL.out]; omega⟩])
          obtain rfl : o = [] := ho0.out hq0
          rw [show ((0 : Nat) : Int) = 0 from rfl] at e1
          have hlast : ((k : Int) == (sx.size : Int) - 1) = false := by rw [beq_eq_false_iff_ne]; omega
          clear e3 hQ hap hoe hq0
          go_wp2_with fail
          go_roundw
          case rel => exact ⟨k + 1, by rw [HL.out]; omega, int_eq' (by omega), by rw [HN2.out, G2.out], by rw [HN2.out, HR.out], HBr⟩
          case measure => simp only [intOf]; omega
      · have hend : D.take k = D := List.take_of_length_le (by rw [HL.out]; omega)
        rw [hend, HE1.out, HE2.out]
        have ho : outH a.natAbs k D.length = dec a.natAbs := by unfold outH; rw [if_neg (fun c => by rw [HL.out] at c; omega)]
        rw [ho]
        have hol : (dec a.natAbs).length ≤ 39 := dec_len (k := 38) (by
          unfold In64 at ha
          have : (10 : Nat) ^ 39 = 1000000000000000000000000000000000000000 := by decide
          rw [this]; omega)
        have hcat : (⟨(dec a.natAbs).toArray⟩ : ByteArray) = ⟨(decZ a).toArray⟩ := by unfold decZ; rw [if_neg (by omega)]
        obtain ⟨tz, htz⟩ : ∃ tz : ByteArray, tz = ⟨(decZ a).toArray⟩ := ⟨_, rfl⟩
        rw [← htz] at hcat
        have HTZ := Lib.hid htz.symm
        rw [hcat]
        generalize dec a.natAbs = o at *
        clear hend ho htz
        go_wp2_with fail
        refine (alive_any _).mono ?_
        rintro e w3 ⟨rfl, k3⟩
        replace HBr := below_thru HBr k3
        clear k3
        go_wp2_with fail
        refine (OA.out _).mono ?_
        rintro e w4 ⟨rfl, k4⟩
        replace HBr := below_thru HBr k4
        clear k4
        go_wp2_with fail
        refine (TA.out _).mono ?_
        rintro e w5 ⟨rfl, k5⟩
        rw [HTZ.out]
        replace HBr := below_thru HBr k5
        clear k5
        go_wp2
        go_ret
        exact ⟨rfl, HBr⟩
theorem wideHands_wf (a y : Int) (ha : In64 a) (hy : (Lit.int .u32 y).wf = true) (w : World) :
    Calls Try.prog 9 #[.int .i64 a, .int .u32 y] w (RetV w (.bool true)) := wideHands_walk a y ha (bounds_u32 hy).1 w
end Go.Proofs.Ytpjhenipeafbiaa
