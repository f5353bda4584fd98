/- The document's answer of layer 2: a number's text. -/
import Derived.Test.YtpjhenipeafbiaaAny
import Derived.Test.YtpjhenipeafbiaaDiv
import Derived.Test.YtpjhenipeafbiaaDec
import Derived.Test.YtpjhenipeafbiaaWdef
import Derived.Laws.IdiomStrings
namespace Go.Proofs.Ytpjhenipeafbiaa
open Go.RowKit

/-- one byte made a text -/
theorem one_byte (W : World) (x : Int) (d : UInt8) (h : x = d.toNat) :
    (convert 64 9 (.slice (some ⟨W.heap.size, 0, none⟩) 1 1)).run Try.prog (W.alloc (.cells #[.int .u8 x] 5)) = .ok (.string ⟨[d].toArray⟩) (W.alloc (.cells #[.int .u8 x] 5)) := by
  refine run_convert_bytes_back (W.alloc (.cells #[.int .u8 x] 5)) 64 9 5 ⟨W.heap.size, 0, none⟩ 1 [d] Try.underlying64 Try.underlying5 Try.underlying9 ?_
  intro j hj
  obtain rfl : j = 0 := by simp at hj; omega
  have ea : ((⟨W.heap.size, 0, none⟩ : Addr).add 0) = ⟨W.heap.size, 0, none⟩ := by unfold Addr.add; split <;> simp_all
  rw [ea]
  simp [h]

/-- What Text keeps: its number, and what was there before it. -/
structure TK (w : World) (A : Option Addr) (n c : Nat) (z : Int) (W : World) : Prop where
  bx : Box W w.heap.size false (.slice A n c)
  zx : Zs W false A n c z
  hb : Below w.heap.size w W
theorem TK.kept (w : World) (A : Option Addr) (n c : Nat) (z : Int) : Kept w.heap.size (TK w A n c z) :=
  ⟨fun _ _ h k => ⟨h.bx.below' k, h.zx.below k, below_next h.hb k⟩,
   fun W b q v r u h bx hlt => ⟨h.bx.far2 (by omega) _ _, h.zx.set2 bx.c0 _ _, (h.hb.setCell (p := ⟨b, 0, none⟩) (by show _ ≤ b; omega) _).setCell (p := ⟨b, 1, none⟩) (by show _ ≤ b; omega) _⟩⟩

theorem ten_div (x : Nat) : ((x : Int)).fdiv 10 = ((x / 10 : Nat) : Int) ∧ ((x : Int)).fmod 10 = ((x % 10 : Nat) : Int) := by
  rw [Int.fdiv_eq_ediv_of_nonneg _ (by decide), Int.fmod_eq_emod_of_nonneg _ (by decide)]
  omega
theorem pow_ten_digits {x k : Nat} (h : x < 10 ^ k) : x < 65536 ^ k := Nat.lt_of_lt_of_le h (Nat.pow_le_pow_left (by decide) k)
theorem digs_ten {x : Nat} (h : x % 10 ≠ 0) : digs (x % 10) = [x % 10] := by
  have hlt : x % 10 < 10 := Nat.mod_lt _ (by decide)
  rw [digs_pos h, Nat.mod_eq_of_lt (by omega), Nat.div_eq_of_lt (by omega), digs_zero]

set_option maxRecDepth 100000 in
set_option maxHeartbeats 8000000 in
theorem text_pos (k : Nat) (hk : k ≤ 1000) (x : Nat) : x < 10 ^ (k + 1) → ∀ (A : Option Addr) (n c : Nat) (w : World), Zs w false A n c (x : Int) →
    Calls Try.prog 36 #[.agg #[.bool false, .slice A n c]] w (RetS w (dec x)) := by
  induction x using Nat.strongRecOn with
  | _ x ih =>
    intro hx A n c w hz
    have hn := hz.small (k := k + 1) (by rw [Int.natAbs_natCast]; exact pow_ten_digits hx)
    have TEN := Lib.hid (ten_div x)
    go_enter Try.func36, Try.ntmps36
    have b1 := Box.new w false (.slice A n c) 31
    have HB := below_alloc2 w (.cells #[.bool false, .slice A n c] 31)
    go_upto_region 3 with fail
    have st : PreD w.heap.size (TK w A n c x) (w.alloc (.cells #[.bool false, .slice A n c] 31)) [] := ⟨TK.kept w A n c x, ⟨b1, hz.below HB, HB⟩, b1.lt, (fun b h => by cases h), (fun b h => by cases h), List.nodup_nil⟩
    generalize w.alloc (.cells #[.bool false, .slice A n c] 31) = w2 at *
    clear hz HB
    go_cut [3, 4] (fun v3 v4 wx => DivCutD w.heap.size (TK w A n c x) ((x / 10 : Nat) : Int) ((x % 10 : Nat) : Int) v3 v4 wx)
    case first =>
      obtain ⟨gn1, gn2⟩ := behind st.lt w.heap.size (by omega)
      obtain ⟨_, a0, a1, _, _⟩ := b1
      have ONE := Lib.hid (show ((10 : Int)).natAbs < 65536 ^ 1 by decide)
      go_region_held3 (fun w' => w'.cell? ⟨w.heap.size, 0, none⟩ = some (.bool false) ∧ w'.cell? ⟨w.heap.size, 1, none⟩ = some (.slice A n c)) (first | (with_reducible exact ⟨st.k.bx.c0, st.k.bx.c1⟩) | (with_reducible exact ⟨st.alloc1.k.bx.c0, st.alloc1.k.bx.c1⟩) | (with_reducible exact ⟨st.alloc2.k.bx.c0, st.alloc2.k.bx.c1⟩) | (with_reducible exact ⟨st.drew.k.bx.c0, st.drew.k.bx.c1⟩) | (with_reducible exact ⟨st.alloc1.drew.k.bx.c0, st.alloc1.drew.k.bx.c1⟩) | (with_reducible exact ⟨st.alloc2.drew.k.bx.c0, st.alloc2.drew.k.bx.c1⟩) | go_keep)
        (first
        | (go_at_call 38; refine (ofu_int 10 (by decide) (by decide) _).mono ?_; rintro e w1 ⟨r1, C1, k1, f1, rfl, z1, hb⟩
           have l1 := z1.small ONE.out
           with_reducible (first | replace st := st.below hb | replace st := st.alloc1.below hb | replace st := st.alloc2.below hb | replace st := st.drew.below hb | replace st := st.alloc1.drew.below hb | replace st := st.alloc2.drew.below hb)
           clear hb
           obtain ⟨_, a2, a3, _, _⟩ := id st.k.bx
           obtain ⟨gn1, gn2⟩ := behind st.lt w.heap.size (by omega)
           try obtain ⟨gm1, gm2⟩ := behind (st.ge _ (List.mem_cons_self ..)) w.heap.size (by omega)
           try obtain ⟨gk1, gk2⟩ := behind (st.ge _ (List.mem_cons_of_mem _ (List.mem_cons_self ..))) w.heap.size (by omega)
           try obtain ⟨_, x0, x1, x2, x3⟩ := st.al _ (List.mem_cons_self ..)
           try obtain ⟨_, x4, x5, x6, x7⟩ := st.al _ (List.mem_cons_of_mem _ (List.mem_cons_self ..))
          )
        | (go_at_call 46; refine (div_any false r1 A C1 n k1 c f1 (x : Int) 10 _ (by with_reducible first | exact st.k.zx | exact (st.k.zx.below (below_alloc2 _ _)) | exact ((st.k.zx.below (below_alloc2 _ _)).below (below_alloc2 _ _)) | exact (st.k.zx.drew) | exact ((st.k.zx.below (below_alloc2 _ _)).drew) | exact (((st.k.zx.below (below_alloc2 _ _)).below (below_alloc2 _ _)).drew)) (by with_reducible first | exact z1 | exact (z1.below (below_alloc2 _ _)) | exact ((z1.below (below_alloc2 _ _)).below (below_alloc2 _ _)) | exact (z1.drew) | exact ((z1.below (below_alloc2 _ _)).drew) | exact (((z1.below (below_alloc2 _ _)).below (below_alloc2 _ _)).drew)) (by omega) (by omega) (by decide)).mono ?_; rintro e w1 ⟨r3, C3, k3, f3, r4, C4, k4, f4, rfl, z3, z4, hb⟩
           rw [TEN.out.1] at z3
           rw [TEN.out.2] at z4
           with_reducible (first | replace st := st.below hb | replace st := st.alloc1.below hb | replace st := st.alloc2.below hb | replace st := st.drew.below hb | replace st := st.alloc1.drew.below hb | replace st := st.alloc2.drew.below hb)
           clear hb
           obtain ⟨_, a2, a3, _, _⟩ := id st.k.bx
           obtain ⟨gn1, gn2⟩ := behind st.lt w.heap.size (by omega)
           try obtain ⟨gm1, gm2⟩ := behind (st.ge _ (List.mem_cons_self ..)) w.heap.size (by omega)
           try obtain ⟨gk1, gk2⟩ := behind (st.ge _ (List.mem_cons_of_mem _ (List.mem_cons_self ..))) w.heap.size (by omega)
           try obtain ⟨_, x0, x1, x2, x3⟩ := st.al _ (List.mem_cons_self ..)
           try obtain ⟨_, x4, x5, x6, x7⟩ := st.al _ (List.mem_cons_of_mem _ (List.mem_cons_self ..))
          ))
      all_goals
        go_wp2_with fail
        go_meet
        refine ⟨_, _, r3, C3, k3, f3, r4, C4, k4, f4, rfl, rfl, ?_⟩
        with_reducible first | exact st.fin1a z3 z4 | exact st.fin1b z3 z4 | exact st.fin2a z3 z4 | exact st.fin2b z3 z4 | exact st.fin3a z3 z4 | exact st.fin3b z3 z4
    case rest =>
      obtain ⟨g, h, pq, Aq, nq, cq, pr, Ar, nr, cr, rfl, rfl, s0⟩ := hcut
      clear st b1
      have HBc := s0.k.hb
      have hp : pq = false := by rw [s0.zq.sign]; exact decide_eq_false (by omega)
      subst hp
      have hr := s0.zr.ds
      rw [Int.natAbs_natCast] at hr
      obtain ⟨_, q0, q1, _, _⟩ := id s0.bq
      obtain ⟨_, r0, r1, _, _⟩ := id s0.br
      have hlt : x % 10 < 10 := Nat.mod_lt _ (by decide)
      by_cases h0 : x % 10 = 0
      · have hnr : nr = 0 := by rw [← hr.len, h0, digs_zero]; rfl
        subst hnr
        obtain ⟨b, hb⟩ : ∃ b : UInt8, b = UInt8.ofNat (48 + 0) := ⟨_, rfl⟩
        have cv := fun W => one_byte W 48 b (by rw [hb]; rfl)
        have HBY := Lib.hid hb
        have HDDr := Lib.hid h0
        clear hb h0 hr
        have DX10 := Lib.hid (show ¬ x < 10 → dec x = dec (x / 10) ++ [b] from fun h10 => by rw [dec_big h10, HBY.out, HDDr.out])
        have DX1 := Lib.hid (show x < 10 → dec x = [b] from fun h10 => by rw [dec_small h10, HBY.out, ← HDDr.out, Nat.mod_eq_of_lt h10])
        by_cases hq : x / 10 = 0
        · have hnq : nq = 0 := by
            rw [← s0.zq.len, Int.natAbs_natCast, hq, digs_zero]; rfl
          subst hnq
          have DX := Lib.hid (DX1.out (by omega))
          have HB5 := below_next HBc (below_alloc2 _ (.cells #[.int .u8 48] 5))
          clear ih hx DX1 DX10
          go_wp2
          go_ret
          exact ⟨by rw [DX.out]; rfl, HB5⟩
        · have hnq : 0 < nq := by
            rw [← s0.zq.len, Int.natAbs_natCast]
            rcases Nat.eq_zero_or_pos (digs (x / 10)).length with h1 | h1
            · exact absurd (digs_nil.1 (List.eq_nil_of_length_eq_zero h1)) hq
            · exact h1
          have LD := Lib.hid (dec_len (n := x / 10) (k := k) (Nat.lt_of_le_of_lt (Nat.div_le_self _ _) hx))
          have DX := Lib.hid (DX10.out (fun h => hq (Nat.div_eq_of_lt h)))
          have IH := Lib.hid (fun W hW => ih (x / 10) (by omega) (Nat.lt_of_le_of_lt (Nat.div_le_self _ _) hx) Aq nq cq W hW)
          clear ih hx DX1 DX10
          generalize hl : dec (x / 10) = l at *
          clear hl
          have ll := LD.out
          go_wp2_with fail
          refine (IH.out _ (s0.zq.below (below_alloc2 _ _))).mono ?_
          rintro e w5 ⟨rfl, k5⟩
          have HB5 := below_next (below_next HBc (below_alloc2 _ _)) k5
          clear k5
          go_wp2
          go_ret
          exact ⟨by rw [DX.out, ← bytes_append]; rfl, HB5⟩
      · have hd := digs_ten h0
        rw [hd] at hr
        have hnr : 1 = nr := hr.len
        subst hnr
        obtain ⟨gb, rfl, hg, hcl⟩ := hr.cells (by omega)
        have xc := hcl 0 (by omega)
        simp only [List.getD_cons_zero] at xc
        clear hcl hr hd
        generalize hdd : x % 10 = dd at *
        have HDDr := Lib.hid hdd
        clear hdd
        obtain ⟨b, hb⟩ : ∃ b : UInt8, b = UInt8.ofNat (48 + dd) := ⟨_, rfl⟩
        have cv := fun W => one_byte W (48 + (dd : Int)) b (by rw [hb, UInt8.toNat_ofNat']; omega)
        have HBY := Lib.hid hb
        clear hb
        have DX10 := Lib.hid (show ¬ x < 10 → dec x = dec (x / 10) ++ [b] from fun h10 => by rw [dec_big h10, HBY.out, HDDr.out])
        have DX1 := Lib.hid (show x < 10 → dec x = [b] from fun h10 => by rw [dec_small h10, HBY.out, ← HDDr.out, Nat.mod_eq_of_lt h10])
        by_cases hq : x / 10 = 0
        · have hnq : nq = 0 := by
            rw [← s0.zq.len, Int.natAbs_natCast, hq, digs_zero]; rfl
          subst hnq
          have DX := Lib.hid (DX1.out (by omega))
          have HB5 := below_next HBc (below_alloc2 _ (.cells #[.int .u8 (48 + (dd : Int))] 5))
          clear ih hx DX1 DX10
          go_wp2
          go_ret
          exact ⟨by rw [DX.out]; rfl, HB5⟩
        · have hnq : 0 < nq := by
            rw [← s0.zq.len, Int.natAbs_natCast]
            rcases Nat.eq_zero_or_pos (digs (x / 10)).length with h1 | h1
            · exact absurd (digs_nil.1 (List.eq_nil_of_length_eq_zero h1)) hq
            · exact h1
          have LD := Lib.hid (dec_len (n := x / 10) (k := k) (Nat.lt_of_le_of_lt (Nat.div_le_self _ _) hx))
          have DX := Lib.hid (DX10.out (fun h => hq (Nat.div_eq_of_lt h)))
          have IH := Lib.hid (fun W hW => ih (x / 10) (by omega) (Nat.lt_of_le_of_lt (Nat.div_le_self _ _) hx) Aq nq cq W hW)
          clear ih hx DX1 DX10
          generalize hl : dec (x / 10) = l at *
          clear hl
          have ll := LD.out
          go_wp2_with fail
          refine (IH.out _ (s0.zq.below (below_alloc2 _ _))).mono ?_
          rintro e w5 ⟨rfl, k5⟩
          have HB5 := below_next (below_next HBc (below_alloc2 _ _)) k5
          clear k5
          go_wp2
          go_ret
          exact ⟨by rw [DX.out, ← bytes_append]; rfl, HB5⟩

theorem text_neg (k : Nat) (hk : k ≤ 1000) (x : Nat) (hx : x < 10 ^ (k + 1)) (h0 : 0 < x) (A : Option Addr) (n c : Nat) (w : World) (hz : Zs w true A n c (-(x : Int))) :
    Calls Try.prog 36 #[.agg #[.bool true, .slice A n c]] w (RetS w (45 :: dec x)) := by
  have hn := hz.small (k := k + 1) (by rw [Int.natAbs_neg, Int.natAbs_natCast]; exact pow_ten_digits hx)
  have LD := Lib.hid (dec_len hx)
  have T := Lib.hid (fun W A' n' c' hW => text_pos k hk x hx A' n' c' W hW)
  have HB := below_alloc2 w (.cells #[.bool true, .slice A n c] 31)
  clear hx
  go_enter Try.func36, Try.ntmps36
  go_wp2_with fail
  refine (neg_any true A n c _ _ (hz.below HB) (by omega)).mono ?_
  rintro e w1 ⟨p1, A1, n1, c1, rfl, z1, k1⟩
  rw [Int.neg_neg] at z1
  have hp : p1 = false := by rw [z1.sign]; exact decide_eq_false (by omega)
  subst hp
  have HB1 := below_next HB k1
  clear k1 HB
  go_wp2_with fail
  refine (T.out _ A1 n1 c1 z1).mono ?_
  rintro e w2 ⟨rfl, k2⟩
  have HB2 := below_next HB1 k2
  have ll := LD.out
  clear k2 HB1
  generalize hl : dec x = l at *
  clear hl
  go_wp2
  go_ret
  exact ⟨by rw [show (45 :: l : List UInt8) = [45] ++ l from rfl, ← bytes_append]; rfl, HB2⟩

/-- the text of any number that isn't too great -/
theorem text_any (z : Int) (k : Nat) (hk : k ≤ 1000) (hz0 : z.natAbs < 10 ^ (k + 1)) (p : Bool) (A : Option Addr) (n c : Nat) (w : World) (hz : Zs w p A n c z) :
    Calls Try.prog 36 #[.agg #[.bool p, .slice A n c]] w (RetS w (decZ z)) := by
  have hs := hz.sign
  unfold decZ
  by_cases h : z < 0
  · rw [if_pos h]
    obtain rfl : p = true := by rw [hs]; exact decide_eq_true h
    have e : z = -(z.natAbs : Int) := by omega
    rw [e] at hz
    exact text_neg k hk z.natAbs hz0 (by omega) A n c w hz
  · rw [if_neg h]
    obtain rfl : p = false := by rw [hs]; exact decide_eq_false h
    have e : z = (z.natAbs : Int) := by omega
    rw [e] at hz
    exact text_pos k hk z.natAbs hz0 A n c w hz
end Go.Proofs.Ytpjhenipeafbiaa
