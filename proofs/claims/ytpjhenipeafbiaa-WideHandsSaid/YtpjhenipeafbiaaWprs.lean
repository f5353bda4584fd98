/- What package wide's Parse answers: of all wide numbers the one whose text it is, or the refusal. -/
import Derived.Test.YtpjhenipeafbiaaWread
namespace Go.Proofs.Ytpjhenipeafbiaa
open Go.RowKit

/-! Plain mathematics of the digits read so far. -/
theorem accD_ge (l : List UInt8) : ∀ a, a ≤ accD a l := by
  induction l with
  | nil => intro a; exact Nat.le_refl _
  | cons b l ih =>
    intro a
    have := ih (a * 10 + (b.toNat - 48))
    show a ≤ accD (a * 10 + (b.toNat - 48)) l
    omega
theorem accD_app (a : Nat) (l m : List UInt8) : accD a (l ++ m) = accD (accD a l) m := by unfold accD; rw [List.foldl_append]
theorem accD_take_le (l : List UInt8) (k : Nat) : accD 0 (l.take k) ≤ accD 0 l := by
  conv => rhs; rw [← List.take_append_drop k l, accD_app]
  exact accD_ge _ _
/-- a number with a sign -/
def sgv (g : Bool) (n : Nat) : Int := if g = true then -(n : Int) else n
theorem prs_step (l : List UInt8) (z : Int) (hz : decZ z = l) (k : Nat) (x : UInt8) (hx : (body l)[k]? = some x) :
    48 ≤ x.toNat ∧ accD 0 ((body l).take (k + 1)) = accD 0 ((body l).take k) * 10 + (x.toNat - 48) ∧ accD 0 ((body l).take (k + 1)) ≤ z.natAbs ∧ sgnb l = decide (z < 0) := by
  subst hz
  have h1 := decZ_digits z x (List.mem_of_getElem? hx)
  obtain ⟨h2, h3⟩ := body_decZ z
  refine ⟨h1.1, ?_, ?_, h3⟩
  · rw [List.take_add_one, hx]
    exact accD_snoc 0 _ x
  · have := accD_take_le (body (decZ z)) (k + 1)
    rw [h2, accD_dec] at this
    rw [h2]
    exact this
theorem prs_end (l : List UInt8) (z : Int) (hz : decZ z = l) : sgv (sgnb l) (accD 0 (body l)) = z := by
  subst hz
  obtain ⟨h2, h3⟩ := body_decZ z
  rw [h2, h3, accD_dec]
  unfold sgv
  by_cases h : z < 0
  · simp [h]; omega
  · simp [h]; omega

/-- What Parse leaves. -/
def RetPE (w : World) (l : List UInt8) (e : Ending) (w' : World) : Prop :=
  ((∃ z, InW z ∧ decZ z = l ∧ e = .returned (.tuple #[.agg #[.int .i64 (hiW z), .int .u64 (loW z)], .int .i64 0])) ∨
    ((∀ z, InW z → decZ z ≠ l) ∧ e = .returned (.tuple #[.agg #[.int .i64 0, .int .u64 0], .int .i64 6]))) ∧ Below w.heap.size w w'

/-- What stands while Parse runs. -/
structure PrsSt (w W : World) (v : Int) : Prop where
  pr : Pair W w.heap.size (.int .i64 0) (.int .u64 0)
  bw : Pair W (w.heap.size + 1) (.int .i64 (hiW v)) (.int .u64 (loW v))
  hb : Below w.heap.size w W
theorem PrsSt.below {w W W' : World} {v : Int} (s : PrsSt w W v) (k : Below W.heap.size W W') : PrsSt w W' v := ⟨s.pr.below k, s.bw.below k, below_thru s.hb k⟩
theorem PrsSt.set {w W : World} {v : Int} (s : PrsSt w W v) (x : Int) : PrsSt w ((W.setCell ⟨w.heap.size + 1, 0, none⟩ (.int .i64 (hiW x))).setCell ⟨w.heap.size + 1, 1, none⟩ (.int .u64 (loW x))) x :=
  ⟨s.pr.far2 (by omega) _ _, s.bw.self2 _ _, (s.hb.setCell (p := ⟨w.heap.size + 1, 0, none⟩) (by show _ ≤ w.heap.size + 1; omega) _).setCell (p := ⟨w.heap.size + 1, 1, none⟩) (by show _ ≤ w.heap.size + 1; omega) _⟩

/-- What holds at the head of a round of Parse. -/
def PrsRel (w : World) (l : List UInt8) (v17 : Value) (W : World) : Prop :=
  ∃ (k : Nat) (v : Int), v17 = .int .i64 k ∧ k ≤ (body l).length ∧ InW v ∧ (∀ z, InW z → decZ z = l → v = sgv (sgnb l) (accD 0 ((body l).take k))) ∧ PrsSt w W v

set_option maxRecDepth 100000 in
set_option maxHeartbeats 8000000 in
theorem wideParse (s : ByteArray) (hs : s.size ≤ maxLen) (w : World) :
    Calls Try.prog 33 #[.string s] w (RetPE w s.data.toList) := by
  have CUT := Lib.hid (fun W => cutMinus s hs W)
  have hs1 : s.size ≤ 9223372036854775807 := by unfold maxLen at hs; omega
  clear hs
  go_enter Try.func33, Try.ntmps33
  go_wp2_with fail
  have P := Pair.new w (.int .i64 0) (.int .u64 0) 24
  have HB := below_box w (.cells #[.int .i64 0, .int .u64 0] 24)
  refine (CUT.out _).mono ?_
  rintro e w1 ⟨t, rfl, h1, h2, rfl⟩
  have h3 : t.size ≤ 9223372036854775807 := by omega
  have hlen : t.data.toList.length = t.size := by simp
  rw [h1] at hlen
  have HLEN := Lib.hid hlen
  have HT := Lib.hid h1
  clear hlen h1 h2 CUT
  generalize hg : sgnb s.data.toList = g at *
  have HG := Lib.hid hg
  clear hg
  go_wp2_with fail
  have B := Pair.new (w.alloc (.cells #[.int .i64 0, .int .u64 0] 24)) (.int .i64 0) (.int .u64 0) 24
  rw [World.size_alloc] at B
  replace P := P.below (below_box _ (.cells #[.int .i64 0, .int .u64 0] 24))
  replace HB := below_thru HB (below_box _ (.cells #[.int .i64 0, .int .u64 0] 24))
  generalize (w.alloc (.cells #[.int .i64 0, .int .u64 0] 24)).alloc (.cells #[.int .i64 0, .int .u64 0] 24) = w0 at *
  go_loopw [17] (fun i wr => PrsRel w s.data.toList i wr) (fun i _ => t.size - (intOf i).toNat)
  case atStart =>
    refine ⟨0, 0, rfl, Nat.zero_le _, by decide, fun z _ _ => ?_, ⟨P, B, HB⟩⟩
    rw [List.take_zero]
    unfold sgv accD
    split <;> rfl
  case round =>
    obtain ⟨k, v, rfl, hk, hvw, hz, st⟩ := hrel
    clear P B HB
    rw [HLEN.out] at hk
    by_cases hlt : k < t.size
    · have hget : (body s.data.toList)[k]? = some t[k] := by
        rw [← HT.out, List.getElem?_eq_getElem (by simpa using hlt)]; rfl
      have hb256 : (t[k].toNat : Int) < 256 := by have := UInt8.toNat_lt t[k]; omega
      have hb0 : 0 ≤ (t[k].toNat : Int) := by omega
      have hstep := fun z (hzi : InW z) (hzl : decZ z = s.data.toList) => prs_step s.data.toList z hzl k t[k] hget
      obtain ⟨d, hd⟩ : ∃ d : Int, d = if g = true then 48 - (t[k].toNat : Int) else (t[k].toNat : Int) - 48 := ⟨_, rfl⟩
      have hd64 : In64 d := by rw [hd]; unfold In64; split <;> omega
      have hgo : ∀ z, InW z → decZ z = s.data.toList → InW (v * 10) ∧ InW (v * 10 + d) ∧ v * 10 + d = sgv (sgnb s.data.toList) (accD 0 ((body s.data.toList).take (k + 1))) := fun z hzi hzl => by
        obtain ⟨q1, q2, q3, q4⟩ := hstep z hzi hzl
        have q5 := hz z hzi hzl
        rw [q2]
        rw [q2] at q3
        rw [HG.out] at q4 q5 ⊢
        generalize accD 0 ((body s.data.toList).take k) = ac at *
        unfold InW two127 at *
        unfold sgv at *
        cases g
        · have hn : ¬ z < 0 := by intro c; rw [decide_eq_true c] at q4; cases q4
          simp only [Bool.false_eq_true, if_false] at *
          omega
        · have hn : z < 0 := by apply Classical.byContradiction; intro c; rw [decide_eq_false c] at q4; cases q4
          simp only [if_true] at *
          omega
      clear hstep hz hget
      have HGO := Lib.hid hgo
      clear hgo
      by_cases hok : InW (v * 10) ∧ InW (v * 10 + d)
      · have CW := Lib.hid (show ∀ d', d' = d → ∀ W, Calls Try.prog 50 #[.agg #[.int .i64 (hiW v), .int .u64 (loW v)], .int .i64 d'] W (RetV W (.tuple #[.agg #[.int .i64 (hiW (v * 10 + d)), .int .u64 (loW (v * 10 + d))], .int .i64 0])) from fun d' hd' W => by
          subst hd'
          have h := with_in v d' hvw hd64 hok.1 W
          unfold RetWE hv lv ev at h
          rw [if_pos hok.2, if_pos hok.2, if_pos hok.2] at h
          exact h)
        have HN := Lib.hid hok.2
        have HV := Lib.hid hvw
        have HD := Lib.hid hd
        clear hok hvw hd hd64
        obtain ⟨_, b0, b1, f0, f1⟩ := id st.bw
        cases g
        all_goals
          go_wp2_with fail
          refine (CW.out _ (by rw [HD.out]; simp <;> omega) _).mono ?_
          rintro e w3 ⟨rfl, k3⟩
          have s3 := st.below k3
          have s4 := s3.set (v * 10 + d)
          clear k3 b0 b1 f0 f1 st
          obtain ⟨_, b0, b1, f0, f1⟩ := id s3.bw
          clear s3
          go_wp2
          go_roundw
          case rel => exact ⟨k + 1, v * 10 + d, int_eq' (by omega), by rw [HLEN.out]; omega, HN.out, fun z h1 h2 => (HGO.out z h1 h2).2.2, s4⟩
          case measure => simp only [intOf]; omega
      · have NO := Lib.hid (show ∀ z, InW z → decZ z ≠ s.data.toList from fun z h1 h2 => hok ⟨(HGO.out z h1 h2).1, (HGO.out z h1 h2).2.1⟩)
        have CW := Lib.hid (show ∀ d', d' = d → ∀ W, Calls Try.prog 50 #[.agg #[.int .i64 (hiW v), .int .u64 (loW v)], .int .i64 d'] W (RetV W (.tuple #[.agg #[.int .i64 0, .int .u64 0], .int .i64 2])) from fun d' hd' W => by
          subst hd'
          by_cases h10 : InW (v * 10)
          · have h := with_in v d' hvw hd64 h10 W
            unfold RetWE hv lv ev at h
            rw [if_neg (fun c => hok ⟨h10, c⟩), if_neg (fun c => hok ⟨h10, c⟩), if_neg (fun c => hok ⟨h10, c⟩)] at h
            exact h
          · exact with_out v d' hvw h10 W)
        have HD := Lib.hid hd
        clear hok hvw hd hd64
        obtain ⟨_, b0, b1, f0, f1⟩ := id st.bw
        cases g
        all_goals
          go_wp2_with fail
          refine (CW.out _ (by rw [HD.out]; simp <;> omega) _).mono ?_
          rintro e w3 ⟨rfl, k3⟩
          have s3 := st.below k3
          have s4 := s3.set 0
          rw [show hiW 0 = 0 from rfl, show loW 0 = 0 from rfl] at s4
          clear k3 b0 b1 f0 f1 st
          obtain ⟨_, b0, b1, f0, f1⟩ := id s3.bw
          obtain ⟨_, p0, p1, e0, e1⟩ := id s3.pr
          clear s3
          go_wp2
          have P2 := s4.pr.self2 (.int .i64 0) (.int .u64 0)
          have HB3 := (s4.hb.setCell (p := ⟨w.heap.size, 0, none⟩) (Nat.le_refl _) (.int .i64 0)).setCell (p := ⟨w.heap.size, 1, none⟩) (Nat.le_refl _) (.int .u64 0)
          exact bodyPost_ret (v := .tuple #[.agg #[.int .i64 0, .int .u64 0], .int .i64 6]) (by simp [results, Try.results33, go_sem, P2.c0, P2.c1]) rfl ⟨.inr ⟨NO.out, rfl⟩, HB3⟩
    · have hend : (body s.data.toList).take k = body s.data.toList := List.take_of_length_le (by rw [HLEN.out]; omega)
      rw [hend] at hz
      have HZ := Lib.hid (fun z (h1 : InW z) (h2 : decZ z = s.data.toList) => (hz z h1 h2).trans (prs_end _ z h2))
      have T := Lib.hid (fun W => wideText v hvw W)
      have HV := Lib.hid hvw
      clear hz hend hvw
      obtain ⟨_, b0, b1, f0, f1⟩ := id st.bw
      go_wp2_with fail
      refine (T.out _).mono ?_
      rintro e w3 ⟨rfl, k3⟩
      have s3 := st.below k3
      clear k3 b0 b1 f0 f1 st T
      obtain ⟨_, b0, b1, f0, f1⟩ := id s3.bw
      obtain ⟨_, p0, p1, e0, e1⟩ := id s3.pr
      by_cases hq : decZ v = s.data.toList
      · have hs : (⟨(decZ v).toArray⟩ : ByteArray) = s := by rw [hq]
        have HQ := Lib.hid hq
        rw [hs]
        clear hq hs
        go_wp2
        have P2 := s3.pr.self2 (.int .i64 (hiW v)) (.int .u64 (loW v))
        have HB3 := (s3.hb.setCell (p := ⟨w.heap.size, 0, none⟩) (Nat.le_refl _) (.int .i64 (hiW v))).setCell (p := ⟨w.heap.size, 1, none⟩) (Nat.le_refl _) (.int .u64 (loW v))
        exact bodyPost_ret (v := .tuple #[.agg #[.int .i64 (hiW v), .int .u64 (loW v)], .int .i64 0]) (by simp [results, Try.results33, go_sem, P2.c0, P2.c1]) rfl ⟨.inl ⟨v, HV.out, HQ.out, rfl⟩, HB3⟩
      · have NO := Lib.hid (show ∀ z, InW z → decZ z ≠ s.data.toList from fun z h1 h2 => hq (by rw [HZ.out z h1 h2]; exact h2))
        have hsa : ((⟨(decZ v).toArray⟩ : ByteArray).toList == s.toList) = false := by
          rw [beq_eq_false_iff_ne]
          intro h
          rw [ByteArray.toList_eq, ByteArray.toList_eq] at h
          exact hq (by simpa using h)
        have hsb : (!(⟨(decZ v).toArray⟩ : ByteArray).toList == s.toList) = true := by rw [hsa]; rfl
        clear hq
        generalize (⟨(decZ v).toArray⟩ : ByteArray) = tx at *
        go_wp2
        have P2 := s3.pr.self2 (.int .i64 0) (.int .u64 0)
        have HB3 := (s3.hb.setCell (p := ⟨w.heap.size, 0, none⟩) (Nat.le_refl _) (.int .i64 0)).setCell (p := ⟨w.heap.size, 1, none⟩) (Nat.le_refl _) (.int .u64 0)
        exact bodyPost_ret (v := .tuple #[.agg #[.int .i64 0, .int .u64 0], .int .i64 6]) (by simp [results, Try.results33, go_sem, P2.c0, P2.c1]) rfl ⟨.inr ⟨NO.out, rfl⟩, HB3⟩
end Go.Proofs.Ytpjhenipeafbiaa
