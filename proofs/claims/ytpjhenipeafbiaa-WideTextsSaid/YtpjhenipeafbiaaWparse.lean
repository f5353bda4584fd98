/- The document's answer of layer 2: of all wide numbers the one whose text it is. -/
import Derived.Test.YtpjhenipeafbiaaWtold
import Derived.Test.YtpjhenipeafbiaaWtext
namespace Go.Proofs.Ytpjhenipeafbiaa
open Go.RowKit

/-- What stands while Parse runs: the answer's block, the number's block, the number. -/
structure ParSt (w W : World) (pz : Bool) (Az : Option Addr) (nz cz : Nat) (a : Int) : Prop where
  pr : Pair W w.heap.size (.int .i64 0) (.int .u64 0)
  bz : Box W (w.heap.size + 1) pz (.slice Az nz cz)
  zz : Zs W pz Az nz cz a
  hb : Below w.heap.size w W
section
variable {w W W' : World} {pz : Bool} {Az : Option Addr} {nz cz : Nat} {a : Int}
theorem ParSt.below (s : ParSt w W pz Az nz cz a) (k : Below W.heap.size W W') : ParSt w W' pz Az nz cz a := ⟨s.pr.below k, s.bz.below' k, s.zz.below k, below_next s.hb k⟩
theorem ParSt.drew (s : ParSt w W pz Az nz cz a) : ParSt w W.drew pz Az nz cz a := s.below (Below.refl _ _).drew
theorem ParSt.set (s : ParSt w W pz Az nz cz a) {t : Bool} {C : Option Addr} {k f : Nat} {z : Int} (hz : Zs W t C k f z) :
    ParSt w ((W.setCell ⟨w.heap.size + 1, 0, none⟩ (.bool t)).setCell ⟨w.heap.size + 1, 1, none⟩ (.slice C k f)) t C k f z :=
  ⟨s.pr.far2 (by omega) _ _, s.bz.self2 _ _, hz.set2 s.bz.c0 _ _, (s.hb.setCell (p := ⟨w.heap.size + 1, 0, none⟩) (Nat.le_succ _) _).setCell (p := ⟨w.heap.size + 1, 1, none⟩) (Nat.le_succ _) _⟩
end

/-- What holds at the head of a round of Parse. -/
def ParRel (w : World) (l : List UInt8) (v5 v6 : Value) (W : World) : Prop :=
  ∃ (k : Nat) (pz : Bool) (Az : Option Addr) (nz cz : Nat), v6 = .int .i64 k ∧ k ≤ l.length ∧ k ≤ 50 ∧ v5 = .bool (sgnb (l.take k)) ∧ (∀ b ∈ body (l.take k), 48 ≤ b.toNat ∧ b.toNat ≤ 57) ∧
    ParSt w W pz Az nz cz (accD 0 (body (l.take k)) : Int)

/-- What Parse leaves. -/
def RetP (w : World) (l : List UInt8) (e : Ending) (w' : World) : Prop :=
  ((∃ z, InW z ∧ decZ z = l ∧ e = .returned (.tuple #[.agg #[.int .i64 (hiW z), .int .u64 (loW z)], .bool true])) ∨
    ((∀ z, InW z → decZ z ≠ l) ∧ e = .returned (.tuple #[.agg #[.int .i64 0, .int .u64 0], .bool false]))) ∧ Below w.heap.size w w'

theorem body_len (l : List UInt8) : (body l).length ≤ l.length := by unfold body; split <;> simp
theorem acc_small {l : List UInt8} (h : ∀ b ∈ body l, 48 ≤ b.toNat ∧ b.toNat ≤ 57) (hl : l.length ≤ 50) : accD 0 (body l) < 10 ^ 50 := by
  refine Nat.lt_of_lt_of_le (accD_bound _ h) (Nat.pow_le_pow_right (by decide) ?_)
  have := body_len l
  omega
theorem ten50 : (10 : Nat) ^ 50 < 65536 ^ 11 := by decide

set_option maxRecDepth 100000 in
set_option maxHeartbeats 8000000 in
theorem parse_any (s : ByteArray) (hs : s.size ≤ maxLen) (w : World) :
    Calls Try.prog 34 #[.string s] w (RetP w s.data.toList) := by
  have hs1 : s.size ≤ 9223372036854775807 := by unfold maxLen at hs; omega
  clear hs
  have hlen : s.data.toList.length = s.size := by simp
  have HLEN := Lib.hid hlen
  clear hlen
  go_enter Try.func34, Try.ntmps34
  go_wp2_with fail
  have b1 := (Pair.new w (.int .i64 0) (.int .u64 0) 24).below (below_alloc2 _ (.cells #[.bool false, .slice none 0 0] 31))
  have b2 := Box.new (w.alloc (.cells #[.int .i64 0, .int .u64 0] 24)) false (.slice none 0 0) 31
  rw [World.size_alloc] at b2
  have HB := below_next (below_alloc2 w (.cells #[.int .i64 0, .int .u64 0] 24)) (below_alloc2 _ (.cells #[.bool false, .slice none 0 0] 31))
  generalize (w.alloc (.cells #[.int .i64 0, .int .u64 0] 24)).alloc (.cells #[.bool false, .slice none 0 0] 31) = w0 at *
  go_loopw [5, 6] (fun v5 v6 wr => ParRel w s.data.toList v5 v6 wr) (fun _ i _ => s.size - (intOf i).toNat)
  case atStart => exact ⟨0, false, none, 0, 0, rfl, Nat.zero_le _, by omega, rfl, by simp [body], ⟨b1, b2, Zs.zero _, HB⟩⟩
  case round =>
    obtain ⟨k, pz, Az, nz, cz, rfl, hk, hk50, rfl, hdig, st⟩ := hrel
    clear b1 b2 HB
    rw [HLEN.out] at hk
    by_cases hlt : k < s.size ∧ k < 50
    · obtain ⟨hlt1, hlt2⟩ := hlt
      have htake : s.data.toList.take (k + 1) = s.data.toList.take k ++ [s[k]] := by
        rw [List.take_succ_eq_append_getElem (by simpa using hlt1)]; rfl
      have hget : s.data.toList[k]? = some s[k] := by
        rw [List.getElem?_eq_getElem (by simpa using hlt1)]; rfl
      have HT := Lib.hid htake
      have HG := Lib.hid hget
      clear htake hget
      have hb256 : (s[k].toNat : Int) < 256 := by have := UInt8.toNat_lt s[k]; omega
      by_cases hA : k = 0 ∧ s[k] = 45
      · have h0 : ((k : Int) == 0) = true := by simp [hA.1]
        have h45 : ((s[k].toNat : Int) == 45) = true := by rw [hA.2]; rfl
        have hk0 : k < 1 := by omega
        have HA := Lib.hid hA
        clear hA
        go_wp2
        go_roundw
        case rel =>
          have e : s.data.toList.take (k + 1) = [45] := by rw [HT.out, HA.out.2, HA.out.1]; rfl
          have e0 : s.data.toList.take k = [] := by rw [HA.out.1]; rfl
          rw [e0] at st
          exact ⟨k + 1, pz, Az, nz, cz, int_eq (by omega), by rw [HLEN.out]; omega, by omega, by rw [e]; rfl, by rw [e]; simp [body_minus], by rw [e, body_minus]; exact st⟩
        case measure => simp only [intOf]; omega
      · have hkb : (((k : Int) == 0) = true ∧ ((s[k].toNat : Int) == 45) = false) ∨ ((k : Int) == 0) = false := by
          by_cases h0 : k = 0
          · left
            refine ⟨by simp [h0], ?_⟩
            have : s[k] ≠ 45 := fun h => hA ⟨h0, h⟩
            rw [beq_eq_false_iff_ne]
            intro h
            apply this
            apply UInt8.toNat_inj.1
            show s[k].toNat = 45
            omega
          · right
            rw [beq_eq_false_iff_ne]
            omega
        have HA := Lib.hid hA
        clear hA
        by_cases hB : 48 ≤ s[k].toNat ∧ s[k].toNat ≤ 57
        · obtain ⟨hB1, hB2⟩ := hB
          have hB3 : 48 ≤ (s[k].toNat : Int) := by omega
          have hB4 : (s[k].toNat : Int) ≤ 57 := by omega
          have hbs := body_snoc (s.data.toList.take k) s[k] (.inr (fun h => by rw [h] at hB1; revert hB1; decide))
          have hacc := acc_small hdig (by rw [List.length_take]; omega)
          have HBS := Lib.hid hbs
          have HDG := Lib.hid hdig
          clear hbs hdig
          generalize hac : accD 0 (body (s.data.toList.take k)) = ac at *
          have HAC := Lib.hid hac
          have sA := Lib.hid (show ((ac : Int)).natAbs < 65536 ^ 11 by rw [Int.natAbs_natCast]; exact Nat.lt_trans hacc ten50)
          have sM := Lib.hid (show ((ac : Int) * 10).natAbs < 65536 ^ 12 by
            have h1 := ten50
            rw [Nat.pow_succ]
            have : ((ac : Int) * 10).natAbs = ac * 10 := by omega
            omega)
          have sT := Lib.hid (show ((10 : Int)).natAbs < 65536 ^ 1 by decide)
          have sD := Lib.hid (show ((s[k].toNat : Int) - 48).natAbs < 65536 ^ 1 by omega)
          clear hac hacc
          have la := st.zz.small sA.out
          have std := st.drew
          obtain ⟨_, a0, a1, a2, a3⟩ := id st.bz
          have w8 : IntKind.u8.wrap ((s[k].toNat : Int) - 48) = (s[k].toNat : Int) - 48 := IntWalk.u8_in _ (by omega)
          have w64 : IntKind.u64.wrap ((s[k].toNat : Int) - 48) = (s[k].toNat : Int) - 48 := IntWalk.u64_in _ (by omega)
          have hd0 : 0 ≤ (s[k].toNat : Int) - 48 := by omega
          have hd1 : (s[k].toNat : Int) - 48 ≤ 18446744073709551615 := by omega
          rcases hkb with ⟨h0, h45⟩ | h0
          all_goals
            go_wp2_with fail
            go_region_with (first
              | (go_at_call_of 38 (Value.int IntKind.u64 10); refine (ofu_int 10 (by decide) (by decide) _).mono ?_; rintro e w1 ⟨p1, A1, n1, c1, rfl, z1, k1⟩
                 have l1 := z1.small sT.out
                 have s1 := std.below k1
                 clear k1
                 obtain ⟨_, b0, b1, _, _⟩ := id s1.bz)
              | (go_at_call 28; ((with_reducible refine (mul_any pz p1 Az A1 nz n1 cz c1 _ _ _ s1.zz z1 (by omega) (by omega)).mono ?_)); rintro e w2 ⟨p2, A2, n2, c2, rfl, z2, k2⟩
                 have l2 := z2.small sM.out
                 have s2 := s1.below k2
                 clear k2)
              | (go_at_call 38; ((with_reducible refine (ofu_int ((s[k].toNat : Int) - 48) hd0 hd1 _).mono ?_)); rintro e w3 ⟨p3, A3, n3, c3, rfl, z3, k3⟩
                 have l3 := z3.small sD.out
                 have s3 := s2.below k3
                 have z2' := z2.below k3
                 clear k3)
              | (go_at_call 21; ((with_reducible refine (add_any p2 p3 A2 A3 n2 n3 c2 c3 _ _ _ z2' z3 (by omega) (by omega)).mono ?_)); rintro e w4 ⟨p4, A4, n4, c4, rfl, z4, k4⟩
                 have s4 := s3.below k4
                 have s5 := s4.set z4
                 clear k4
                 obtain ⟨_, e0, e1, e2, e3⟩ := id s4.bz))
            all_goals
              go_wp2
              go_roundw
              case rel =>
                have e : ((ac * 10 + (s[k].toNat - 48) : Nat) : Int) = (ac : Int) * 10 + ((s[k].toNat : Int) - 48) := by omega
                refine ⟨k + 1, p4, A4, n4, c4, int_eq (by omega), by rw [HLEN.out]; omega, by omega, by rw [HT.out, HBS.out.2], ?_, ?_⟩
                · rw [HT.out, HBS.out.1]
                  intro b hb
                  rcases List.mem_append.1 hb with hb | hb
                  · exact HDG.out b hb
                  · rw [List.mem_singleton.1 hb]; omega
                · rw [HT.out, HBS.out.1, accD_snoc, HAC.out, e]
                  exact s5
              case measure => simp only [intOf]; omega
        · have hB' : (s[k].toNat : Int) < 48 ∨ 57 < (s[k].toNat : Int) := by omega
          have NT := Lib.hid (fun z => no_text s.data.toList k s[k] HG.out hB (fun h0 h => HA.out ⟨h0, h⟩) z)
          obtain ⟨_, d0, d1, e0, e1⟩ := id st.pr
          have HB := st.hb
          clear hB st
          rcases hkb with ⟨h0, h45⟩ | h0 <;> rcases hB' with hB1 | hB1
          all_goals
            go_wp2
            exact bodyPost_ret (v := .tuple #[.agg #[.int .i64 0, .int .u64 0], .bool false]) (by simp [results, Try.results34, go_sem, d0, d1]) rfl
              ⟨.inr ⟨fun z _ => NT.out z, rfl⟩, (HB.setCell (p := ⟨w.heap.size, 0, none⟩) (Nat.le_refl _) _).setCell (p := ⟨w.heap.size, 1, none⟩) (Nat.le_refl _) _⟩
    · have hend : s.data.toList.take k = s.data.toList ∨ 50 ≤ s.size ∧ k = 50 := by
        by_cases h : k < s.size
        · right; omega
        · left; exact List.take_of_length_le (by rw [HLEN.out]; omega)
      have hacc := acc_small hdig (by rw [List.length_take]; omega)
      have hz : ∀ z, InW z → decZ z = s.data.toList → numD (s.data.toList.take k) = z := by
        intro z h1 h2
        rcases hend with h3 | ⟨h3, _⟩
        · rw [h3, ← h2, numD_decZ]
        · exfalso
          have h4 := decZ_len (z := z) (k := 39) (by
            unfold InW two127 at h1
            have : (10 : Nat) ^ 40 = 10000000000000000000000000000000000000000 := by decide
            rw [this]; omega)
          rw [h2, HLEN.out] at h4
          omega
      have hnum : numD (s.data.toList.take k) = (if sgnb (s.data.toList.take k) = true then -((accD 0 (body (s.data.toList.take k)) : Nat) : Int) else (accD 0 (body (s.data.toList.take k)) : Nat)) := rfl
      have hsmall : (numD (s.data.toList.take k)).natAbs < 10 ^ (49 + 1) := by
        rw [hnum]; split <;> omega
      have HZ := Lib.hid hz
      have hLT : k < s.size ∧ k < 50 → False := hlt
      clear hz hend hdig
      generalize numD (s.data.toList.take k) = a at *
      generalize accD 0 (body (s.data.toList.take k)) = ac at *
      have HNUM := Lib.hid hnum
      have HSM := Lib.hid hsmall
      have sA := Lib.hid (show ((ac : Int)).natAbs < 65536 ^ 11 by rw [Int.natAbs_natCast]; exact Nat.lt_trans hacc ten50)
      have sB := Lib.hid (show a.natAbs < 65536 ^ 11 from Nat.lt_trans hsmall ten50)
      clear hnum hsmall hacc
      have la := st.zz.small sA.out
      generalize hsg : sgnb (s.data.toList.take k) = sg at *
      clear hsg
      have hex : ¬ k < s.size ∨ (k < s.size ∧ ¬ k < 50) := by omega
      clear hlt hLT
      rcases hex with hex | ⟨hex0, hex⟩
      all_goals
        obtain ⟨_, a0, a1, a2, a3⟩ := id st.bz
        cases sg
        · have hac : (ac : Int) = a := by rw [HNUM.out]; rfl
          rw [hac] at st
          clear hac sA
          go_wp2_with fail
          clear a0 a1 a2 a3
          by_cases hw : InW a
          · refine (wfits_yes pz Az nz cz a _ st.zz (by omega) hw).mono ?_
            rintro e W3 ⟨rfl, k3⟩
            have s3 := st.below k3
            clear k3 st
            have P7 := Pair.new W3 (.int .i64 (hiW a)) (.int .u64 (loW a)) 24
            have s4 := s3.below (below_alloc2 W3 (.cells #[.int .i64 (hiW a), .int .u64 (loW a)] 24))
            obtain ⟨_, b0, b1, _, _⟩ := id s4.bz
            obtain ⟨_, g0, g1, _, _⟩ := id s3.bz
            go_wp2_with fail
            have nW := s3.pr.lt
            clear b0 b1 g0 g1 s3
            refine (text_any a 49 (by omega) HSM.out pz Az nz cz _ s4.zz).mono ?_
            rintro e W4 ⟨rfl, k4⟩
            have P8 := P7.below k4
            have s5 := s4.below k4
            clear k4 s4 P7
            obtain ⟨_, t0, t1, _, _⟩ := id P8
            obtain ⟨_, d0, d1, e0, e1⟩ := id s5.pr
            have HBF := s5.hb
            by_cases hq : decZ a = s.data.toList
            · have hs : (⟨(decZ a).toArray⟩ : ByteArray) = s := by rw [hq]
              have HQ := Lib.hid hq
              rw [hs]
              clear hq hs
              go_wp2
              exact bodyPost_ret (v := .tuple #[.agg #[.int .i64 (hiW a), .int .u64 (loW a)], .bool true]) (by simp [results, Try.results34, go_sem, d0, d1]) rfl
                ⟨.inl ⟨a, hw, HQ.out, rfl⟩, (HBF.setCell (p := ⟨w.heap.size, 0, none⟩) (Nat.le_refl _) _).setCell (p := ⟨w.heap.size, 1, none⟩) (Nat.le_refl _) _⟩
            · have NO := Lib.hid (fun z (h1 : InW z) (h2 : decZ z = s.data.toList) => hq (by rw [HZ.out z h1 h2]; exact h2))
              have hsa : ((⟨(decZ a).toArray⟩ : ByteArray).toList == s.toList) = false := by
                rw [beq_eq_false_iff_ne]
                intro h
                rw [ByteArray.toList_eq, ByteArray.toList_eq] at h
                exact hq (by simpa using h)
              have hsb : (!(⟨(decZ a).toArray⟩ : ByteArray).toList == s.toList) = true := by rw [hsa]; rfl
              clear hq
              generalize (⟨(decZ a).toArray⟩ : ByteArray) = tx at *
              go_wp2
              exact bodyPost_ret (v := .tuple #[.agg #[.int .i64 0, .int .u64 0], .bool false]) (by simp [results, Try.results34, go_sem, d0, d1]) rfl
                ⟨.inr ⟨NO.out, rfl⟩, (HBF.setCell (p := ⟨w.heap.size, 0, none⟩) (Nat.le_refl _) _).setCell (p := ⟨w.heap.size, 1, none⟩) (Nat.le_refl _) _⟩
          · have NO := Lib.hid (fun z (h1 : InW z) (h2 : decZ z = s.data.toList) => hw (by rw [HZ.out z h1 h2]; exact h1))
            refine (wfits_no pz Az nz cz a _ st.zz (by omega) hw).mono ?_
            rintro e W3 ⟨rfl, k3⟩
            have s3 := st.below k3
            clear k3 st
            have B7 := below_alloc2 W3 (.cells #[.int .i64 0, .int .u64 0] 24)
            obtain ⟨_, d0, d1, e0, e1⟩ := id s3.pr
            have s6 := (s3.pr.self2 (.int .i64 0) (.int .u64 0)).below (below_alloc2 _ (.cells #[.int .i64 0, .int .u64 0] 24))
            have HBF := below_next ((s3.hb.setCell (p := ⟨w.heap.size, 0, none⟩) (Nat.le_refl _) (.int .i64 0)).setCell (p := ⟨w.heap.size, 1, none⟩) (Nat.le_refl _) (.int .u64 0)) (below_alloc2 _ (.cells #[.int .i64 0, .int .u64 0] 24))
            clear B7 hw
            go_wp2
            exact bodyPost_ret (v := .tuple #[.agg #[.int .i64 0, .int .u64 0], .bool false]) (by simp [results, Try.results34, go_sem, s6.c0, s6.c1]) rfl ⟨.inr ⟨NO.out, rfl⟩, HBF⟩
        · have hac : -(ac : Int) = a := by rw [HNUM.out]; rfl
          go_wp2_with fail
          refine (neg_any pz Az nz cz _ _ st.zz (by omega)).mono ?_
          rintro e W1 ⟨p1, A1, n1, c1, rfl, z1, k1⟩
          rw [hac] at z1
          have ln1 := z1.small sB.out
          have sb1 := st.below k1
          have sc := sb1.set z1
          clear k1 a0 a1 a2 a3 st hac
          obtain ⟨_, a0, a1, a2, a3⟩ := id sb1.bz
          go_wp2_with fail
          clear a0 a1 a2 a3 sb1 z1
          generalize (W1.setCell ⟨w.heap.size + 1, 0, none⟩ (.bool p1)).setCell ⟨w.heap.size + 1, 1, none⟩ (.slice A1 n1 c1) = W2 at *
          by_cases hw : InW a
          · refine (wfits_yes p1 A1 n1 c1 a _ sc.zz (by omega) hw).mono ?_
            rintro e W3 ⟨rfl, k3⟩
            have s3 := sc.below k3
            clear k3 sc
            have P7 := Pair.new W3 (.int .i64 (hiW a)) (.int .u64 (loW a)) 24
            have s4 := s3.below (below_alloc2 W3 (.cells #[.int .i64 (hiW a), .int .u64 (loW a)] 24))
            obtain ⟨_, b0, b1, _, _⟩ := id s4.bz
            obtain ⟨_, g0, g1, _, _⟩ := id s3.bz
            go_wp2_with fail
            have nW := s3.pr.lt
            clear b0 b1 g0 g1 s3
            refine (text_any a 49 (by omega) HSM.out p1 A1 n1 c1 _ s4.zz).mono ?_
            rintro e W4 ⟨rfl, k4⟩
            have P8 := P7.below k4
            have s5 := s4.below k4
            clear k4 s4 P7
            obtain ⟨_, t0, t1, _, _⟩ := id P8
            obtain ⟨_, d0, d1, e0, e1⟩ := id s5.pr
            have HBF := s5.hb
            by_cases hq : decZ a = s.data.toList
            · have hs : (⟨(decZ a).toArray⟩ : ByteArray) = s := by rw [hq]
              have HQ := Lib.hid hq
              rw [hs]
              clear hq hs
              go_wp2
              exact bodyPost_ret (v := .tuple #[.agg #[.int .i64 (hiW a), .int .u64 (loW a)], .bool true]) (by simp [results, Try.results34, go_sem, d0, d1]) rfl
                ⟨.inl ⟨a, hw, HQ.out, rfl⟩, (HBF.setCell (p := ⟨w.heap.size, 0, none⟩) (Nat.le_refl _) _).setCell (p := ⟨w.heap.size, 1, none⟩) (Nat.le_refl _) _⟩
            · have NO := Lib.hid (fun z (h1 : InW z) (h2 : decZ z = s.data.toList) => hq (by rw [HZ.out z h1 h2]; exact h2))
              have hsa : ((⟨(decZ a).toArray⟩ : ByteArray).toList == s.toList) = false := by
                rw [beq_eq_false_iff_ne]
                intro h
                rw [ByteArray.toList_eq, ByteArray.toList_eq] at h
                exact hq (by simpa using h)
              have hsb : (!(⟨(decZ a).toArray⟩ : ByteArray).toList == s.toList) = true := by rw [hsa]; rfl
              clear hq
              generalize (⟨(decZ a).toArray⟩ : ByteArray) = tx at *
              go_wp2
              exact bodyPost_ret (v := .tuple #[.agg #[.int .i64 0, .int .u64 0], .bool false]) (by simp [results, Try.results34, go_sem, d0, d1]) rfl
                ⟨.inr ⟨NO.out, rfl⟩, (HBF.setCell (p := ⟨w.heap.size, 0, none⟩) (Nat.le_refl _) _).setCell (p := ⟨w.heap.size, 1, none⟩) (Nat.le_refl _) _⟩
          · have NO := Lib.hid (fun z (h1 : InW z) (h2 : decZ z = s.data.toList) => hw (by rw [HZ.out z h1 h2]; exact h1))
            refine (wfits_no p1 A1 n1 c1 a _ sc.zz (by omega) hw).mono ?_
            rintro e W3 ⟨rfl, k3⟩
            have s3 := sc.below k3
            clear k3 sc
            have B7 := below_alloc2 W3 (.cells #[.int .i64 0, .int .u64 0] 24)
            obtain ⟨_, d0, d1, e0, e1⟩ := id s3.pr
            have s6 := (s3.pr.self2 (.int .i64 0) (.int .u64 0)).below (below_alloc2 _ (.cells #[.int .i64 0, .int .u64 0] 24))
            have HBF := below_next ((s3.hb.setCell (p := ⟨w.heap.size, 0, none⟩) (Nat.le_refl _) (.int .i64 0)).setCell (p := ⟨w.heap.size, 1, none⟩) (Nat.le_refl _) (.int .u64 0)) (below_alloc2 _ (.cells #[.int .i64 0, .int .u64 0] 24))
            clear B7 hw
            go_wp2
            exact bodyPost_ret (v := .tuple #[.agg #[.int .i64 0, .int .u64 0], .bool false]) (by simp [results, Try.results34, go_sem, s6.c0, s6.c1]) rfl ⟨.inr ⟨NO.out, rfl⟩, HBF⟩
end Go.Proofs.Ytpjhenipeafbiaa
