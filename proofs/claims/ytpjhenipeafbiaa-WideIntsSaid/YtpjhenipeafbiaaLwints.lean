/- The walk of WideInts: at any number of 64 bits and any two wide ones it returns true; what was there is as it was. -/
import Derived.Test.YtpjhenipeafbiaaWlaw
namespace Go.Proofs.Ytpjhenipeafbiaa
open Go.RowKit

/-- What Fits of a number of any size answers. -/
theorem rfits_any (p : Bool) (A : Option Addr) (n c : Nat) (z : Int) (w : World) (hz : Zs w p A n c z) (hn : n ≤ 2000) :
    Calls Try.prog 12 #[.agg #[.bool p, .slice A n c]] w (RetV w (.tuple #[.int .i64 (iv z), .bool (decide (In64 z))])) := by
  unfold RetV
  by_cases h : In64 z
  · rw [show iv z = z from by unfold iv; rw [if_pos h], show decide (In64 z) = true from decide_eq_true h]
    exact fits_yes p A n c z w hz (by omega) (by unfold two63; unfold In64 at h; omega) (by unfold two63; unfold In64 at h; omega)
  · rw [show iv z = 0 from by unfold iv; rw [if_neg h], show decide (In64 z) = false from decide_eq_false h]
    by_cases h1 : two63 ≤ z
    · exact fits_great p A n c z w hz (by omega) h1
    · exact fits_less p A n c z w hz (by omega) (by unfold In64 at h; unfold two63 at *; omega)

set_option maxRecDepth 100000 in
set_option maxHeartbeats 8000000 in
theorem wideInts_walk (n : Int) (a b : Int) (hn : In64 n) (ha : InW a) (hb : InW b) (w : World) :
    Calls Try.prog 3 #[.int .i64 n, .agg #[.int .i64 (hiW a), .int .u64 (loW a)], .agg #[.int .i64 (hiW b), .int .u64 (loW b)]] w (RetV w (.bool true)) := by
  have ON := Lib.hid (fun W => wideOf n hn W)
  have IN := Lib.hid (show ∀ W, Calls Try.prog 10 #[.agg #[.int .i64 (hiW n), .int .u64 (loW n)]] W (RetV W (.tuple #[.int .i64 n, .bool true])) from fun W => by
    have := wideInt n W
    rwa [show iv n = n from by unfold iv; rw [if_pos hn], show decide (In64 n) = true from decide_eq_true hn] at this)
  have IA := Lib.hid (fun W => wideInt a W)
  have FA := Lib.hid (fun p A m c W hz hm => rfits_any p A m c a W hz hm)
  have CM := Lib.hid (fun W => wideCmp a b W)
  have SG := Lib.hid (fun W => wideSign a W)
  have RC := Lib.hid (show ∀ p q A B m k c d W, Zs W p A m c a → Zs W q B k d b → m ≤ 900000 → k ≤ 900000 → Calls Try.prog 16 #[.agg #[.bool p, .slice A m c], .agg #[.bool q, .slice B k d]] W (RetV W (.int .i64 (ord a b))) from fun p q A B m k c d W h1 h2 h3 h4 => cmp_any p q A B m k c d a b W h1 h2 h3 h4)
  have RS := Lib.hid (show ∀ p A m c W, Zs W p A m c a → m ≤ 900000 → Calls Try.prog 18 #[.agg #[.bool p, .slice A m c]] W (RetV W (.int .i64 (ord a 0))) from fun p A m c W h1 h2 => sign_any p A m c a W h1 h2)
  have OA := Lib.hid (fun W => wof_z a ha W)
  have OB := Lib.hid (fun W => wof_z b hb W)
  have sa := Lib.hid (small_w ha)
  have sb := Lib.hid (small_w hb)
  clear hn ha hb
  generalize iv a = x at *
  generalize decide (In64 a) = q at *
  generalize ord a b = o1 at *
  generalize ord a 0 = o2 at *
  go_enter Try.func3, Try.ntmps3
  go_wp2_with fail
  have KK := ((PairsK.nil w).more (.int .i64 (hiW a)) (.int .u64 (loW a)) 24).more (.int .i64 (hiW b)) (.int .u64 (loW b)) 24
  rw [World.size_alloc] at KK
  generalize (w.alloc (.cells #[.int .i64 (hiW a), .int .u64 (loW a)] 24)).alloc (.cells #[.int .i64 (hiW b), .int .u64 (loW b)] 24) = w0 at *
  refine (ON.out _).mono ?_
  rintro e w1 ⟨rfl, k⟩
  replace KK := KK.below k
  clear k
  go_wp2_with fail
  refine (IN.out _).mono ?_
  rintro e w2 ⟨rfl, k⟩
  replace KK := KK.below k
  clear k
  obtain ⟨_, a0, a0', _, _⟩ := KK.tail.head
  go_wp2_with fail
  refine (IA.out _).mono ?_
  rintro e w3 ⟨rfl, k⟩
  replace KK := KK.below k
  clear k a0 a0'
  obtain ⟨_, a0, a0', _, _⟩ := KK.tail.head
  go_wp2_with fail
  refine (OA.out _).mono ?_
  rintro e w4 ⟨p1, A1, n1, c1, rfl, z1, k⟩
  have l1 := z1.small sa.out
  replace KK := KK.below k
  clear k a0 a0'
  go_wp2_with fail
  refine (FA.out p1 A1 n1 c1 _ z1 (by omega)).mono ?_
  rintro e w5 ⟨rfl, k⟩
  replace KK := KK.below k
  clear k z1
  obtain ⟨_, a0, a0', _, _⟩ := KK.tail.head
  obtain ⟨_, b0, b0', _, _⟩ := KK.head
  go_wp2_with fail
  replace KK := KK.drew
  go_region_held3 (fun w' => w'.cell? ⟨w.heap.size, 0, none⟩ = some (.int .i64 (hiW a)) ∧ w'.cell? ⟨w.heap.size, 1, none⟩ = some (.int .u64 (loW a)) ∧ w'.cell? ⟨w.heap.size + 1, 0, none⟩ = some (.int .i64 (hiW b)) ∧ w'.cell? ⟨w.heap.size + 1, 1, none⟩ = some (.int .u64 (loW b))) (first | (with_reducible exact ⟨KK.tail.head.c0, KK.tail.head.c1, KK.head.c0, KK.head.c1⟩) | go_keep)
    (first
      | (go_at_call 14; (with_reducible refine (alive_any _).mono ?_); rintro e x ⟨rfl, k⟩
         replace KK := KK.below k
         clear k)
      | (go_at_call 15; (with_reducible refine (CM.out _).mono ?_); rintro e x ⟨rfl, k⟩
         replace KK := KK.below k
         clear k)
      | (go_at_call 17; (with_reducible refine (SG.out _).mono ?_); rintro e x ⟨rfl, k⟩
         replace KK := KK.below k
         clear k)
      | (go_at_call 13; (with_reducible refine (OA.out _).mono ?_); rintro e x ⟨p1, A1, n1, c1, rfl, z1, k⟩
         have l1 := z1.small sa.out
         replace KK := KK.below k
         clear k)
      | (go_at_call 13; (with_reducible refine (OB.out _).mono ?_); rintro e x ⟨p2, A2, n2, c2, rfl, z2, k⟩
         have l2 := z2.small sb.out
         replace z1 := z1.below k
         replace KK := KK.below k
         clear k)
      | (go_at_call 16; (with_reducible refine (RC.out p1 p2 A1 A2 n1 n2 c1 c2 _ z1 z2 (by omega) (by omega)).mono ?_); rintro e x ⟨rfl, k⟩
         clear z1 z2
         replace KK := KK.below k
         clear k)
      | (go_at_call 18; (with_reducible refine (RS.out p1 A1 n1 c1 _ z1 (by omega)).mono ?_); rintro e x ⟨rfl, k⟩
         replace KK := KK.below k
         clear k))
  go_wp2
  go_ret
  exact ⟨rfl, KK.hb⟩
end Go.Proofs.Ytpjhenipeafbiaa
