/- What package wide's with answers, and what cutting a minus off a text leaves. -/
import Derived.Test.YtpjhenipeafbiaaWmul
import Derived.Test.YtpjhenipeafbiaaWprint2
namespace Go.Proofs.Ytpjhenipeafbiaa
open Go.RowKit

set_option maxRecDepth 100000 in
set_option maxHeartbeats 2000000 in
theorem with_in (z d : Int) (hz : InW z) (hd : In64 d) (ht : InW (z * 10)) (w : World) :
    Calls Try.prog 50 #[.agg #[.int .i64 (hiW z), .int .u64 (loW z)], .int .i64 d] w (RetWE w (z * 10 + d)) := by
  have T := Lib.hid (fun W => wideTimes z 10 hz (by decide) W)
  have e1 := Lib.hid (show hv (z * 10) = hiW (z * 10) ∧ lv (z * 10) = loW (z * 10) ∧ ev (z * 10) = 0 by unfold hv lv ev; rw [if_pos ht, if_pos ht, if_pos ht]; exact ⟨rfl, rfl, rfl⟩)
  have O := Lib.hid (fun W => wideOf d hd W)
  have A := Lib.hid (fun W => wideAdd (z * 10) d ht (inW_of_64 hd) W)
  clear hz hd ht
  generalize hs : z * 10 + d = s at *
  generalize z * 10 = t at *
  clear hs
  go_enter Try.func50, Try.ntmps50
  go_wp2_with fail
  have Z := (Pair.new w (.int .i64 (hiW z)) (.int .u64 (loW z)) 24).below (below_box _ (.cells #[.int .i64 0, .int .u64 0] 24))
  have P := Pair.new (w.alloc (.cells #[.int .i64 (hiW z), .int .u64 (loW z)] 24)) (.int .i64 0) (.int .u64 0) 24
  simp only [World.size_alloc] at P
  have HB := below_thru (below_box w (.cells #[.int .i64 (hiW z), .int .u64 (loW z)] 24)) (below_box _ (.cells #[.int .i64 0, .int .u64 0] 24))
  generalize (w.alloc (.cells #[.int .i64 (hiW z), .int .u64 (loW z)] 24)).alloc (.cells #[.int .i64 0, .int .u64 0] 24) = w0 at *
  refine (T.out _).mono ?_
  rintro e w1 ⟨rfl, k⟩
  rw [e1.out.1, e1.out.2.1, e1.out.2.2]
  replace P := P.below k
  replace HB := below_thru HB k
  have hlt := P.lt
  clear k Z
  go_wp2_with fail
  have k := below_box w1 (.cells #[.int .i64 (hiW t), .int .u64 (loW t)] 24)
  have X := Pair.new w1 (.int .i64 (hiW t)) (.int .u64 (loW t)) 24
  replace P := P.below k
  replace HB := below_thru HB k
  clear k
  generalize w1.alloc (.cells #[.int .i64 (hiW t), .int .u64 (loW t)] 24) = w2 at *
  generalize w1.heap.size = b at *
  obtain ⟨_, x0, x1, _, _⟩ := id X
  have m1 : w.heap.size + 1 ≠ b := by omega
  replace P := P.drew
  replace X := X.drew
  replace HB := HB.drew
  go_region_held3 (fun w' => w'.cell? ⟨b, 0, none⟩ = some (.int .i64 (hiW t)) ∧ w'.cell? ⟨b, 1, none⟩ = some (.int .u64 (loW t))) (first | (with_reducible exact ⟨X.c0, X.c1⟩) | go_keep)
    (first
      | (go_at_call 11; (with_reducible refine (O.out _).mono ?_); rintro e w3 ⟨rfl, k⟩
         replace P := P.below k
         replace X := X.below k
         replace HB := below_thru HB k
         clear k)
      | (go_at_call 19; (with_reducible refine (A.out _).mono ?_); rintro e w3 ⟨rfl, k⟩
         replace P := P.below k
         replace X := X.below k
         replace HB := below_thru HB k
         clear k
         obtain ⟨_, x4, x5, _, _⟩ := id X
         obtain ⟨_, d0, d1, f0, f1⟩ := id P))
  go_wp2
  exact bodyPost_ret (v := .tuple #[.agg #[.int .i64 (hv s), .int .u64 (lv s)], .int .i64 (ev s)]) (by simp [results, Try.results50, go_sem, d0, d1]) rfl ⟨rfl, (HB.setCell (p := ⟨w.heap.size + 1, 0, none⟩) (by show _ ≤ w.heap.size + 1; omega) _).setCell (p := ⟨w.heap.size + 1, 1, none⟩) (by show _ ≤ w.heap.size + 1; omega) _⟩

set_option maxRecDepth 100000 in
theorem with_out (z d : Int) (hz : InW z) (ht : ¬ InW (z * 10)) (w : World) :
    Calls Try.prog 50 #[.agg #[.int .i64 (hiW z), .int .u64 (loW z)], .int .i64 d] w (RetV w (.tuple #[.agg #[.int .i64 0, .int .u64 0], .int .i64 2])) := by
  have T := Lib.hid (fun W => wideTimes z 10 hz (by decide) W)
  have e1 := Lib.hid (show hv (z * 10) = 0 ∧ lv (z * 10) = 0 ∧ ev (z * 10) = 2 by unfold hv lv ev; rw [if_neg ht, if_neg ht, if_neg ht]; exact ⟨rfl, rfl, rfl⟩)
  clear hz ht
  go_enter Try.func50, Try.ntmps50
  go_wp2_with fail
  have P := Pair.new (w.alloc (.cells #[.int .i64 (hiW z), .int .u64 (loW z)] 24)) (.int .i64 0) (.int .u64 0) 24
  simp only [World.size_alloc] at P
  have HB := below_thru (below_box w (.cells #[.int .i64 (hiW z), .int .u64 (loW z)] 24)) (below_box _ (.cells #[.int .i64 0, .int .u64 0] 24))
  generalize (w.alloc (.cells #[.int .i64 (hiW z), .int .u64 (loW z)] 24)).alloc (.cells #[.int .i64 0, .int .u64 0] 24) = w0 at *
  refine (T.out _).mono ?_
  rintro e w1 ⟨rfl, k⟩
  rw [e1.out.1, e1.out.2.1, e1.out.2.2]
  replace P := P.below k
  replace HB := below_thru HB k
  clear k
  obtain ⟨hlt, d0, d1, f0, f1⟩ := id P
  go_wp2
  have P2 := (P.self2 (.int .i64 0) (.int .u64 0)).below (below_box _ (.cells #[.int .i64 0, .int .u64 0] 24))
  have HB3 := below_thru ((HB.setCell (p := ⟨w.heap.size + 1, 0, none⟩) (by show _ ≤ w.heap.size + 1; omega) (.int .i64 0)).setCell (p := ⟨w.heap.size + 1, 1, none⟩) (by show _ ≤ w.heap.size + 1; omega) (.int .u64 0)) (below_box _ (.cells #[.int .i64 0, .int .u64 0] 24))
  exact bodyPost_ret (v := .tuple #[.agg #[.int .i64 0, .int .u64 0], .int .i64 2]) (by simp [results, Try.results50, go_sem, P2.c0, P2.c1]) rfl ⟨rfl, HB3⟩

/-! a minus cut off -/
theorem hasMinus (s : ByteArray) (hs : s.size ≤ maxLen) (w : World) :
    Calls Try.prog 61 #[.string s, .string ⟨#[45]⟩] w fun e w' => e = .returned (.bool (sgnb s.data.toList)) ∧ w = w' := by
  have hs1 : s.size ≤ 9223372036854775807 := by unfold maxLen at hs; omega
  clear hs
  by_cases h : 1 ≤ s.size
  · have e : ((s.extract 0 1).toList == [45]) = sgnb s.data.toList := by
      rw [ByteArray.toList_eq, ByteArray.data_extract, Array.toList_extract]
      rcases hl : s.data.toList with _ | ⟨x, r⟩
      · have h0 : s.data.toList.length = 0 := by rw [hl]; rfl
        rw [Array.length_toList] at h0
        have : s.size = s.data.size := rfl
        omega
      · by_cases hx : x = 45 <;> simp [sgnb, hx]
    have E := Lib.hid e
    clear e
    go_enter Try.func61, Try.ntmps61
    go_wp2
    go_ret
    exact ⟨by rw [← E.out]; rfl, rfl⟩
  · have e := Lib.hid (show sgnb s.data.toList = false by
      have : s.data.toList = [] := by
        have h0 : s.data.size = 0 := by have : s.size = s.data.size := rfl; omega
        exact List.eq_nil_of_length_eq_zero (by rw [Array.length_toList]; exact h0)
      rw [this]; rfl)
    go_enter Try.func61, Try.ntmps61
    go_wp2
    go_ret
    exact ⟨by rw [e.out]; rfl, rfl⟩
theorem cut_tail (s : ByteArray) (r : List UInt8) (h : s.data.toList = 45 :: r) : (s.extract 1 s.size).data.toList = r := by
  rw [ByteArray.data_extract, Array.toList_extract, h]
  have hl : s.size = r.length + 1 := by
    have : s.data.toList.length = s.size := by simp
    rw [h] at this
    simpa using this.symm
  simp [hl]

/-- What cutting a minus off leaves. -/
def RetCut (w : World) (s : ByteArray) (e : Ending) (w' : World) : Prop :=
  ∃ t : ByteArray, e = .returned (.tuple #[.string t, .bool (sgnb s.data.toList)]) ∧ t.data.toList = body s.data.toList ∧ t.size ≤ s.size ∧ w = w'
theorem cutMinus' (s : ByteArray) (hs : s.size ≤ maxLen) (w : World) :
    Calls Try.prog 58 #[.string s, .string ⟨#[45]⟩] w (RetCut w s) := by
  have H := fun W => hasMinus s hs W
  have hs1 : s.size ≤ 9223372036854775807 := by unfold maxLen at hs; omega
  clear hs
  by_cases h : sgnb s.data.toList = true
  · obtain ⟨r, hr⟩ : ∃ r, s.data.toList = 45 :: r := by
      unfold sgnb at h
      rcases hl : s.data.toList with _ | ⟨x, r⟩
      · rw [hl] at h; simp at h
      · rw [hl] at h
        simp at h
        exact ⟨r, by rw [h]⟩
    have hb := Lib.hid (show (s.extract 1 s.size).data.toList = body s.data.toList by rw [cut_tail s r hr, hr]; rfl)
    have hq := Lib.hid h
    rw [h] at H
    have h1 : 1 ≤ s.size := by
      have : s.data.toList.length = s.size := by simp
      rw [hr] at this
      simp at this
      omega
    clear h hr
    go_enter Try.func58, Try.ntmps58
    go_wp2_with (go_at_call 61; refine (H _).mono ?_; rintro e w' ⟨rfl, rfl⟩)
    go_ret2
    exact ⟨_, by rw [hq.out]; rfl, hb.out, by simp, rfl⟩
  · have h' : sgnb s.data.toList = false := by simpa using h
    have hb := Lib.hid (show s.data.toList = body s.data.toList by unfold sgnb at h; unfold body; rw [if_neg (by simpa using h)])
    have hq := Lib.hid h'
    rw [h'] at H
    clear h h'
    go_enter Try.func58, Try.ntmps58
    go_wp2_with (go_at_call 61; refine (H _).mono ?_; rintro e w' ⟨rfl, rfl⟩)
    go_ret2
    exact ⟨s, by rw [hq.out]; rfl, hb.out, Nat.le_refl _, rfl⟩
theorem cutMinus (s : ByteArray) (hs : s.size ≤ maxLen) (w : World) :
    Calls Try.prog 49 #[.string s, .string ⟨#[45]⟩] w (RetCut w s) := by
  have H := fun W => cutMinus' s hs W
  clear hs
  go_enter Try.func49, Try.ntmps49
  go_wp2_with (go_at_call 58; refine (H _).mono ?_; rintro e w' ⟨t, rfl, h1, h2, rfl⟩)
  go_ret2
  exact ⟨t, rfl, h1, h2, rfl⟩
end Go.Proofs.Ytpjhenipeafbiaa
