/- The walk of WideProducts: at any two numbers of 64 bits and any wide one it returns true; what was there is as it was. -/
import Derived.Test.YtpjhenipeafbiaaWlaw
namespace Go.Proofs.Ytpjhenipeafbiaa
open Go.RowKit

set_option maxRecDepth 100000 in
set_option maxHeartbeats 8000000 in
theorem wideProducts_walk (a b y : Int) (ha : In64 a) (hb : In64 b) (hy : InW y) (w : World) :
    Calls Try.prog 5 #[.int .i64 a, .int .i64 b, .agg #[.int .i64 (hiW y), .int .u64 (loW y)]] w (RetV w (.bool true)) := by
  have hp := prod64_wide ha hb
  have CM := Lib.hid (fun W => wideMul a b ha hb W)
  have CT := Lib.hid (fun W => wideTimes y a hy ha W)
  have OA := Lib.hid (fun W => of_any a ha.1 ha.2 W)
  have OB := Lib.hid (fun W => of_any b hb.1 hb.2 W)
  have OW := Lib.hid (fun W => wof_z y hy W)
  have FP := Lib.hid (fun p A n c W h hn => wfits_yes p A n c (a * b) W h hn hp)
  have sa := Lib.hid (small_w (inW_of_64 ha))
  have sb := Lib.hid (small_w (inW_of_64 hb))
  have sy := Lib.hid (small_w hy)
  have s1 := Lib.hid (small_w hp)
  have s2 := Lib.hid (show (y * a).natAbs < 65536 ^ 18 by
    have e : (65536 : Nat) ^ 18 = 65536 ^ 9 * 65536 ^ 9 := by decide
    rw [e, Int.natAbs_mul]
    exact Nat.mul_lt_mul'' sy.out sa.out)
  clear ha hb hy hp
  go_enter Try.func5, Try.ntmps5
  go_wp2_with fail
  have KK := ((PairsK.nil w).more (.int .i64 (hiW y)) (.int .u64 (loW y)) 24)
  generalize (w.alloc (.cells #[.int .i64 (hiW y), .int .u64 (loW y)] 24)) = w0 at *
  refine (CM.out _).mono ?_
  rintro e w1 ⟨rfl, k⟩
  replace KK := KK.below k
  clear k
  go_wp2_with fail
  have hltgp := KK.head.lt
  replace KK := KK.more (.int .i64 (hiW (a * b))) (.int .u64 (loW (a * b))) 24
  generalize hw1 : w1.alloc (.cells #[.int .i64 (hiW (a * b)), .int .u64 (loW (a * b))] 24) = w2 at *
  generalize hg : w1.heap.size = gp at *
  clear hw1 hg
  refine (OA.out _).mono ?_
  rintro e w1 ⟨p1, A1, n1, c1, rfl, z1, k⟩
  have l1 := z1.small sa.out
  replace KK := KK.below k
  clear k
  go_wp2_with fail
  refine (OB.out _).mono ?_
  rintro e w1 ⟨p2, A2, n2, c2, rfl, z2, k⟩
  have l2 := z2.small sb.out
  replace KK := KK.below k
  replace z1 := z1.below k
  clear k
  go_wp2_with fail
  refine (mul_any p1 p2 A1 A2 n1 n2 c1 c2 _ _ _ z1 z2 (by omega) (by omega)).mono ?_
  rintro e w1 ⟨p3, A3, n3, c3, rfl, z3, k⟩
  have l3 := z3.small s1.out
  replace KK := KK.below k
  clear k
  go_wp2_with fail
  clear z1 z2
  refine (FP.out p3 A3 n3 c3 _ z3 (by omega)).mono ?_
  rintro e w1 ⟨rfl, k⟩
  replace KK := KK.below k
  clear k z3
  obtain ⟨_, a0, a0', _, _⟩ := KK.tail.head
  go_wp2_with fail
  clear a0 a0'
  have hltgq := KK.head.lt
  replace KK := KK.more (.int .i64 (hiW (a * b))) (.int .u64 (loW (a * b))) 24
  generalize hw1 : w1.alloc (.cells #[.int .i64 (hiW (a * b)), .int .u64 (loW (a * b))] 24) = w2 at *
  generalize hg : w1.heap.size = gq at *
  clear hw1 hg
  refine (CT.out _).mono ?_
  rintro e w1 ⟨rfl, k⟩
  replace KK := KK.below k
  clear k
  obtain ⟨_, a0, a0', _, _⟩ := KK.tail.tail.head
  go_wp2_with fail
  clear a0 a0'
  have hltgt := KK.head.lt
  replace KK := KK.more (.int .i64 (hv (y * a))) (.int .u64 (lv (y * a))) 24
  generalize hw1 : w1.alloc (.cells #[.int .i64 (hv (y * a)), .int .u64 (lv (y * a))] 24) = w2 at *
  generalize hg : w1.heap.size = gt at *
  clear hw1 hg
  refine (OW.out _).mono ?_
  rintro e w1 ⟨p1, A1, n1, c1, rfl, z1, k⟩
  have l1 := z1.small sy.out
  replace KK := KK.below k
  clear k
  go_wp2_with fail
  refine (OA.out _).mono ?_
  rintro e w1 ⟨p2, A2, n2, c2, rfl, z2, k⟩
  have l2 := z2.small sa.out
  replace KK := KK.below k
  replace z1 := z1.below k
  clear k
  go_wp2_with fail
  refine (mul_any p1 p2 A1 A2 n1 n2 c1 c2 _ _ _ z1 z2 (by omega) (by omega)).mono ?_
  rintro e w1 ⟨p3, A3, n3, c3, rfl, z3, k⟩
  have l3 := z3.small s2.out
  replace KK := KK.below k
  clear k
  go_wp2_with fail
  clear z1 z2
  refine (wtold_any p3 A3 n3 c3 _ _ z3 (by omega)).mono ?_
  rintro e w1 ⟨rfl, k⟩
  replace KK := KK.below k
  clear k z3
  go_wp2_with fail
  have hltgu := KK.head.lt
  replace KK := KK.more (.int .i64 (hv (y * a))) (.int .u64 (lv (y * a))) 24
  generalize hw1 : w1.alloc (.cells #[.int .i64 (hv (y * a)), .int .u64 (lv (y * a))] 24) = w2 at *
  generalize hg : w1.heap.size = gu at *
  clear hw1 hg
  refine (alive_any _).mono ?_
  rintro e w1 ⟨rfl, k⟩
  replace KK := KK.below k
  clear k
  obtain ⟨_, a0, a0', _, _⟩ := KK.head
  obtain ⟨_, a1, a1', _, _⟩ := KK.tail.head
  obtain ⟨_, a2, a2', _, _⟩ := KK.tail.tail.head
  obtain ⟨_, a3, a3', _, _⟩ := KK.tail.tail.tail.head
  have HB := KK.hb
  go_wp2
  go_ret
  exact ⟨rfl, HB⟩
end Go.Proofs.Ytpjhenipeafbiaa
