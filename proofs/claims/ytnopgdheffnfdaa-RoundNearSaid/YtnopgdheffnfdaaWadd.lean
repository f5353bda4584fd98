/- What package wide's Add, Sub and Neg answer, at any wide numbers: through Sum. -/
import Derived.Test.YtnopgdheffnfdaaWsum
namespace Go.Proofs.Ytnopgdheffnfdaa
open Go.RowKit

theorem ws_two (w : World) (a b : Int) (ha : InW a) (hb : InW b) (t : TypeId) :
    Ws (w.alloc (.cells #[.int .i64 (hiW a), .int .u64 (loW a), .int .i64 (hiW b), .int .u64 (loW b)] t)) (some ⟨w.heap.size, 0, none⟩) 2 2 [a, b] := by
  refine ⟨rfl, by omega, by simp [maxLen], by simp [ha, hb], fun _ => ⟨⟨w.heap.size, 0, none⟩, rfl, by simp, fun j hj => ?_⟩⟩
  rcases j with _ | _ | j
  · constructor <;> simp [Addr.add]
  · constructor <;> simp [Addr.add]
  · omega
theorem RetWE.thru {w w0 : World} {z : Int} {e : Ending} {w' : World} (h : RetWE w z e w') (hb : Below w0.heap.size w0 w) : RetWE w0 z e w' := ⟨h.1, below_thru hb h.2⟩

theorem wideAdd (a b : Int) (ha : InW a) (hb : InW b) (w : World) :
    Calls Try.prog 33 #[.agg #[.int .i64 (hiW a), .int .u64 (loW a)], .agg #[.int .i64 (hiW b), .int .u64 (loW b)]] w (RetWE w (a + b)) := by
  have S := fun W => ws_two W a b ha hb 24
  go_enter Try.func33, Try.ntmps33
  go_wp2_with fail
  have HB := below_thru (below_thru (below_box w (.cells #[.int .i64 (hiW a), .int .u64 (loW a)] 24)) (below_box _ (.cells #[.int .i64 (hiW b), .int .u64 (loW b)] 24))) (below_box _ (.cells #[.int .i64 0, .int .u64 0] 24))
  have P := Pair.new ((w.alloc (.cells #[.int .i64 (hiW a), .int .u64 (loW a)] 24)).alloc (.cells #[.int .i64 (hiW b), .int .u64 (loW b)] 24)) (.int .i64 0) (.int .u64 0) 24
  simp only [World.size_alloc] at P
  have hsz : w.heap.size + 1 + 1 + 1 = (((w.alloc (.cells #[.int .i64 (hiW a), .int .u64 (loW a)] 24)).alloc (.cells #[.int .i64 (hiW b), .int .u64 (loW b)] 24)).alloc (.cells #[.int .i64 0, .int .u64 0] 24)).heap.size := by simp only [World.size_alloc]
  generalize ((w.alloc (.cells #[.int .i64 (hiW a), .int .u64 (loW a)] 24)).alloc (.cells #[.int .i64 (hiW b), .int .u64 (loW b)] 24)).alloc (.cells #[.int .i64 0, .int .u64 0] 24) = w0 at *
  rw [hsz]
  have S0 := S w0
  have k := below_box w0 (.cells #[.int .i64 (hiW a), .int .u64 (loW a), .int .i64 (hiW b), .int .u64 (loW b)] 24)
  replace P := P.below k
  replace HB := below_thru HB k
  clear S k hsz
  generalize w0.alloc (.cells #[.int .i64 (hiW a), .int .u64 (loW a), .int .i64 (hiW b), .int .u64 (loW b)] 24) = w1 at *
  refine (wideSum _ 2 2 [a, b] w1 S0 (by omega)).mono ?_
  rintro e w2 ⟨rfl, k⟩
  replace P := P.below k
  replace HB := below_thru HB k
  clear k S0
  have e : [a, b].sum = a + b := by simp
  rw [e]
  obtain ⟨_, d0, d1, f0, f1⟩ := id P
  go_wp2
  exact bodyPost_ret (v := .tuple #[.agg #[.int .i64 (hv (a + b)), .int .u64 (lv (a + b))], .int .i64 (ev (a + b))]) (by simp [results, Try.results33, go_sem, d0, d1]) rfl ⟨rfl, (HB.setCell (p := ⟨w.heap.size + 1 + 1, 0, none⟩) (by show _ ≤ w.heap.size + 1 + 1; omega) _).setCell (p := ⟨w.heap.size + 1 + 1, 1, none⟩) (by show _ ≤ w.heap.size + 1 + 1; omega) _⟩
theorem ws_three (w : World) (a b c : Int) (ha : InW a) (hb : InW b) (hc : InW c) (t : TypeId) :
    Ws (w.alloc (.cells #[.int .i64 (hiW a), .int .u64 (loW a), .int .i64 (hiW b), .int .u64 (loW b), .int .i64 (hiW c), .int .u64 (loW c)] t)) (some ⟨w.heap.size, 0, none⟩) 3 3 [a, b, c] := by
  refine ⟨rfl, by omega, by simp [maxLen], by simp [ha, hb, hc], fun _ => ⟨⟨w.heap.size, 0, none⟩, rfl, by simp, fun j hj => ?_⟩⟩
  rcases j with _ | _ | _ | j
  · constructor <;> simp [Addr.add]
  · constructor <;> simp [Addr.add]
  · constructor <;> simp [Addr.add]
  · omega
theorem turned {b : Int} (hb : InW b) : InW (-b - 1) ∧ hiW (-b - 1) = -hiW b - 1 ∧ loW (-b - 1) = 18446744073709551615 - loW b := by
  unfold InW two127 at *
  unfold hiW loW
  omega

theorem not_i64 (a : Int) (h : In64 a) : bits .xor .i64 (-1) a = -a - 1 := by
  unfold In64 at h
  show IntKind.i64.wrap ((BitVec.ofInt 64 (-1) ^^^ BitVec.ofInt 64 a).toNat : Int) = _
  rw [show BitVec.ofInt 64 (-1) = BitVec.allOnes 64 from by decide, BitVec.allOnes_xor, BitVec.toNat_not, BitVec.toNat_ofInt]
  simp [IntKind.wrap, IntKind.bits, IntKind.signed]
  omega
theorem not_u64 (a : Int) (h0 : 0 ≤ a) (h1 : a ≤ 18446744073709551615) : bits .xor .u64 IntKind.u64.max a = 18446744073709551615 - a := by
  show IntKind.u64.wrap ((BitVec.ofInt 64 IntKind.u64.max ^^^ BitVec.ofInt 64 a).toNat : Int) = _
  rw [show BitVec.ofInt 64 IntKind.u64.max = BitVec.allOnes 64 from by decide, BitVec.allOnes_xor, BitVec.toNat_not, BitVec.toNat_ofInt]
  simp [IntKind.wrap, IntKind.bits, IntKind.signed]
  omega

set_option maxRecDepth 100000 in
theorem wideSub (a b : Int) (ha : InW a) (hb : InW b) (w : World) :
    Calls Try.prog 29 #[.agg #[.int .i64 (hiW a), .int .u64 (loW a)], .agg #[.int .i64 (hiW b), .int .u64 (loW b)]] w (RetWE w (a - b)) := by
  obtain ⟨t1, t2, t3⟩ := turned hb
  obtain ⟨i1, i2, i3, i4⟩ := halves hb
  clear i4
  have n1 := not_i64 _ i1
  have n2 := not_u64 _ i2 i3
  rw [← t2] at n1
  rw [← t3] at n2
  clear t2 t3 i1 i2 i3
  generalize ht : -b - 1 = t at *
  have HT := Lib.hid ht
  clear ht
  have SUM := Lib.hid (show [a, t, 1].sum = a - b by rw [← HT.out]; simp; omega)
  have N1 := Lib.hid n1
  have N2 := Lib.hid n2
  clear n1 n2
  have S := fun W => ws_three W a t 1 ha t1 (inW_of_64 (by decide)) 24
  have O := fun W => wideOf 1 (by decide) W
  go_enter Try.func29, Try.ntmps29
  go_wp2_with fail
  have HB := below_thru (below_thru (below_box w (.cells #[.int .i64 (hiW a), .int .u64 (loW a)] 24)) (below_box _ (.cells #[.int .i64 (hiW b), .int .u64 (loW b)] 24))) (below_box _ (.cells #[.int .i64 0, .int .u64 0] 24))
  have P := Pair.new ((w.alloc (.cells #[.int .i64 (hiW a), .int .u64 (loW a)] 24)).alloc (.cells #[.int .i64 (hiW b), .int .u64 (loW b)] 24)) (.int .i64 0) (.int .u64 0) 24
  have A := (Pair.new w (.int .i64 (hiW a)) (.int .u64 (loW a)) 24).below (below_thru (below_box _ (.cells #[.int .i64 (hiW b), .int .u64 (loW b)] 24)) (below_box _ (.cells #[.int .i64 0, .int .u64 0] 24)))
  have B := (Pair.new (w.alloc (.cells #[.int .i64 (hiW a), .int .u64 (loW a)] 24)) (.int .i64 (hiW b)) (.int .u64 (loW b)) 24).below (below_box _ (.cells #[.int .i64 0, .int .u64 0] 24))
  simp only [World.size_alloc] at P A B
  have hsz : w.heap.size < (((w.alloc (.cells #[.int .i64 (hiW a), .int .u64 (loW a)] 24)).alloc (.cells #[.int .i64 (hiW b), .int .u64 (loW b)] 24)).alloc (.cells #[.int .i64 0, .int .u64 0] 24)).heap.size := by simp only [World.size_alloc]; omega
  generalize ((w.alloc (.cells #[.int .i64 (hiW a), .int .u64 (loW a)] 24)).alloc (.cells #[.int .i64 (hiW b), .int .u64 (loW b)] 24)).alloc (.cells #[.int .i64 0, .int .u64 0] 24) = w0 at *
  obtain ⟨_, a0, a1, _, _⟩ := id A
  obtain ⟨_, b0, b1, _, _⟩ := id B
  have m1 : w.heap.size + 1 + 1 ≠ w.heap.size := by omega
  have m2 : w.heap.size + 1 + 1 ≠ w.heap.size + 1 := by omega
  have n1 := N1.out
  have n2 := N2.out
  replace P := P.drew
  replace A := A.drew
  replace B := B.drew
  replace HB := HB.drew
  go_region_held3 (fun w' => w'.cell? ⟨w.heap.size, 0, none⟩ = some (.int .i64 (hiW a)) ∧ w'.cell? ⟨w.heap.size, 1, none⟩ = some (.int .u64 (loW a)) ∧ w'.cell? ⟨w.heap.size + 1, 0, none⟩ = some (.int .i64 (hiW b)) ∧ w'.cell? ⟨w.heap.size + 1, 1, none⟩ = some (.int .u64 (loW b))) (first | exact ⟨A.c0, A.c1, B.c0, B.c1⟩ | go_keep)
    (first
      | (go_at_call 14; refine (O _).mono ?_; rintro e w1 ⟨rfl, hb⟩
         replace P := P.below hb
         replace A := A.below hb
         replace B := B.below hb
         replace HB := below_thru HB hb
         clear hb)
      | (go_at_call 56; refine (wideSum _ 3 3 [a, t, 1] _ (S _) (by omega)).mono ?_; rintro e w2 ⟨rfl, k⟩
         rw [SUM.out]
         replace k := below_thru (below_box _ _) k
         replace P := P.below k
         replace A := A.below k
         replace B := B.below k
         replace HB := below_thru HB k
         clear k
         obtain ⟨_, a4, a5, _, _⟩ := id A
         obtain ⟨_, b4, b5, _, _⟩ := id B
         obtain ⟨_, d0, d1, f0, f1⟩ := id P))
  go_wp2
  exact bodyPost_ret (v := .tuple #[.agg #[.int .i64 (hv (a - b)), .int .u64 (lv (a - b))], .int .i64 (ev (a - b))]) (by simp [results, Try.results29, go_sem, d0, d1]) rfl ⟨rfl, (HB.setCell (p := ⟨w.heap.size + 1 + 1, 0, none⟩) (by show _ ≤ w.heap.size + 1 + 1; omega) _).setCell (p := ⟨w.heap.size + 1 + 1, 1, none⟩) (by show _ ≤ w.heap.size + 1 + 1; omega) _⟩

theorem wideNeg (a : Int) (ha : InW a) (w : World) :
    Calls Try.prog 16 #[.agg #[.int .i64 (hiW a), .int .u64 (loW a)]] w (RetWE w (-a)) := by
  have S := fun W => wideSub 0 a (inW_of_64 (by decide)) ha W
  rw [show hiW 0 = 0 from rfl, show loW 0 = 0 from rfl, Int.zero_sub] at S
  go_enter Try.func16, Try.ntmps16
  go_wp2_with fail
  have HB := below_thru (below_box w (.cells #[.int .i64 (hiW a), .int .u64 (loW a)] 24)) (below_box _ (.cells #[.int .i64 0, .int .u64 0] 24))
  have P := Pair.new (w.alloc (.cells #[.int .i64 (hiW a), .int .u64 (loW a)] 24)) (.int .i64 0) (.int .u64 0) 24
  simp only [World.size_alloc] at P
  generalize (w.alloc (.cells #[.int .i64 (hiW a), .int .u64 (loW a)] 24)).alloc (.cells #[.int .i64 0, .int .u64 0] 24) = w0 at *
  refine (S w0).mono ?_
  rintro e w2 ⟨rfl, k⟩
  replace P := P.below k
  replace HB := below_thru HB k
  clear k S
  obtain ⟨_, d0, d1, f0, f1⟩ := id P
  go_wp2
  exact bodyPost_ret (v := .tuple #[.agg #[.int .i64 (hv (-a)), .int .u64 (lv (-a))], .int .i64 (ev (-a))]) (by simp [results, Try.results16, go_sem, d0, d1]) rfl ⟨rfl, (HB.setCell (p := ⟨w.heap.size + 1, 0, none⟩) (by show _ ≤ w.heap.size + 1; omega) _).setCell (p := ⟨w.heap.size + 1, 1, none⟩) (by show _ ≤ w.heap.size + 1; omega) _⟩
end Go.Proofs.Ytnopgdheffnfdaa
