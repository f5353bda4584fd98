/- The document's answer of layer 2: a wide number and 0, or none and the error's number; a number's sign. -/
import Derived.Test.YtnopgdheffnfdaaWfits
namespace Go.Proofs.Ytnopgdheffnfdaa
open Go.RowKit

theorem wfits_no (p : Bool) (A : Option Addr) (n c : Nat) (z : Int) (w : World) (hz : Zs w p A n c z) (hn : n ≤ 2000) (h : ¬ InW z) :
    Calls Try.prog 57 #[.agg #[.bool p, .slice A n c]] w (RetWB w 0 0 false) := by
  by_cases h1 : two127 ≤ z
  · exact wfits_great p A n c z w hz hn h1
  · exact wfits_less p A n c z w hz (by omega) (by unfold InW at h; omega)

set_option maxHeartbeats 2000000 in
theorem wtold_any (p : Bool) (A : Option Addr) (n c : Nat) (z : Int) (w : World) (hz : Zs w p A n c z) (hn : n ≤ 2000) :
    Calls Try.prog 31 #[.agg #[.bool p, .slice A n c]] w (RetWE w z) := by
  have HB := below_next (below_alloc2 w (.cells #[.bool p, .slice A n c] 38)) (below_alloc2 _ (.cells #[.int .i64 0, .int .u64 0] 24))
  have b2 := Pair.new (w.alloc (.cells #[.bool p, .slice A n c] 38)) (.int .i64 0) (.int .u64 0) 24
  rw [World.size_alloc] at b2
  by_cases h : InW z
  · have F1 := Lib.hid (fun W' h' => wfits_yes p A n c z W' h' hn h)
    have e1 := Lib.hid (show hv z = hiW z by unfold hv; rw [if_pos h])
    have e2 := Lib.hid (show lv z = loW z by unfold lv; rw [if_pos h])
    have e3 := Lib.hid (show ev z = 0 by unfold ev; rw [if_pos h])
    clear h
    go_enter Try.func31, Try.ntmps31
    go_wp2_with fail
    generalize (w.alloc (.cells #[.bool p, .slice A n c] 38)).alloc (.cells #[.int .i64 0, .int .u64 0] 24) = w0 at *
    refine (F1.out _ (hz.below HB)).mono ?_
    rintro e w1 ⟨rfl, k1⟩
    replace HB := below_next HB k1
    have B2 := b2.below k1
    clear k1 b2
    obtain ⟨_, d0, d1, e4, e5⟩ := id B2
    go_wp2
    have B3 := (B2.self2 (.int .i64 (hiW z)) (.int .u64 (loW z))).below (below_alloc2 _ (.cells #[.int .i64 (hiW z), .int .u64 (loW z)] 24))
    have HB3 := below_next ((HB.setCell (p := ⟨w.heap.size + 1, 0, none⟩) (Nat.le_succ _) (.int .i64 (hiW z))).setCell (p := ⟨w.heap.size + 1, 1, none⟩) (Nat.le_succ _) (.int .u64 (loW z))) (below_alloc2 _ (.cells #[.int .i64 (hiW z), .int .u64 (loW z)] 24))
    refine bodyPost_ret (v := .tuple #[.agg #[.int .i64 (hiW z), .int .u64 (loW z)], .int .i64 0]) (by simp [results, Try.results31, go_sem, B3.c0, B3.c1]) rfl ⟨by rw [e1.out, e2.out, e3.out], HB3⟩
  · have F1 := Lib.hid (fun W' h' => wfits_no p A n c z W' h' hn h)
    have e1 := Lib.hid (show hv z = 0 by unfold hv; rw [if_neg h])
    have e2 := Lib.hid (show lv z = 0 by unfold lv; rw [if_neg h])
    have e3 := Lib.hid (show ev z = 2 by unfold ev; rw [if_neg h])
    clear h
    go_enter Try.func31, Try.ntmps31
    go_wp2_with fail
    generalize (w.alloc (.cells #[.bool p, .slice A n c] 38)).alloc (.cells #[.int .i64 0, .int .u64 0] 24) = w0 at *
    refine (F1.out _ (hz.below HB)).mono ?_
    rintro e w1 ⟨rfl, k1⟩
    replace HB := below_next HB k1
    have B2 := b2.below k1
    clear k1 b2
    obtain ⟨_, d0, d1, e4, e5⟩ := id B2
    go_wp2
    have B3 := (B2.self2 (.int .i64 (0)) (.int .u64 (0))).below (below_alloc2 _ (.cells #[.int .i64 (0), .int .u64 (0)] 24))
    have HB3 := below_next ((HB.setCell (p := ⟨w.heap.size + 1, 0, none⟩) (Nat.le_succ _) (.int .i64 (0))).setCell (p := ⟨w.heap.size + 1, 1, none⟩) (Nat.le_succ _) (.int .u64 (0))) (below_alloc2 _ (.cells #[.int .i64 (0), .int .u64 (0)] 24))
    refine bodyPost_ret (v := .tuple #[.agg #[.int .i64 (0), .int .u64 (0)], .int .i64 2]) (by simp [results, Try.results31, go_sem, B3.c0, B3.c1]) rfl ⟨by rw [e1.out, e2.out, e3.out], HB3⟩

set_option maxHeartbeats 1000000 in
theorem sign_any (p : Bool) (A : Option Addr) (n c : Nat) (z : Int) (w : World) (hz : Zs w p A n c z) (hn : n ≤ 900000) :
    Calls Try.prog 22 #[.agg #[.bool p, .slice A n c]] w (RetN w (cmpZ z 0)) := by
  have HB := below_alloc2 w (.cells #[.bool p, .slice A n c] 38)
  go_enter Try.func22, Try.ntmps22
  go_wp2_with fail
  refine (cmp_any p false A none n 0 c 0 z 0 _ (hz.below HB) (Zs.zero _) hn (by omega)).mono ?_
  rintro e w1 ⟨rfl, k1⟩
  replace HB := below_next HB k1
  clear k1
  go_wp2
  go_ret
  exact ⟨rfl, HB⟩
end Go.Proofs.Ytnopgdheffnfdaa
