/- The document's answer of layer 2: a wide number as one of any size. -/
import Derived.Test.YtnopgdheffnfdaaMul
import Derived.Test.YtnopgdheffnfdaaWdef
namespace Go.Proofs.Ytnopgdheffnfdaa
open Go.RowKit

theorem below_alloc' (W : World) (o : Obj) : Below W.heap.size W (W.alloc o) := (Below.refl _ _).alloc (Nat.le_refl _) o

theorem pow64 : (2 : Int) ^ 64 = 18446744073709551616 := by decide
theorem power64 (W : World) : Calls Try.prog 37 #[.int .i64 64] W (RetZ W (2 ^ 64)) := power_any 64 (by decide) W
theorem small20 {x : Int} (h : x.natAbs < 65536 ^ 19) : x.natAbs < 65536 ^ 20 := Nat.lt_trans h (Nat.pow_lt_pow_right (by decide) (by decide))

set_option maxHeartbeats 2000000 in
theorem wof_any (hi lo : Int) (h1 : -9223372036854775808 ≤ hi) (h2 : hi ≤ 9223372036854775807) (h3 : 0 ≤ lo) (h4 : lo ≤ 18446744073709551615) (w : World) :
    Calls Try.prog 19 #[.agg #[.int .i64 hi, .int .u64 lo]] w (RetZ w (hi * 2 ^ 64 + lo)) := by
  have OH := Lib.hid (fun W => of_any hi h1 h2 W)
  have OL := Lib.hid (fun W => ofu_int lo h3 h4 W)
  have sh := Lib.hid (show hi.natAbs < 65536 ^ 5 by
    have : (65536 : Nat) ^ 5 = 1208925819614629174706176 := by decide
    rw [this]; omega)
  have sl := Lib.hid (show lo.natAbs < 65536 ^ 5 by
    have : (65536 : Nat) ^ 5 = 1208925819614629174706176 := by decide
    rw [this]; omega)
  have sp := Lib.hid (show ((2 : Int) ^ 64).natAbs < 65536 ^ 5 by rw [pow64]; decide)
  have sm := Lib.hid (show (hi * 2 ^ 64).natAbs < 65536 ^ 11 by
    have : (65536 : Nat) ^ 11 = 95780971304118053647396689196894323976171195136475136 := by decide
    rw [this, pow64]; omega)
  clear h1 h2 h3 h4
  go_enter Try.func19, Try.ntmps19
  go_wp2_with fail
  have b1 := (Pair.new w (.int .i64 hi) (.int .u64 lo) 24).below (below_alloc' _ (.cells #[.bool false, .slice none 0 0] 38))
  have b2 := Box.new (w.alloc (.cells #[.int .i64 hi, .int .u64 lo] 24)) false (.slice none 0 0) 38
  rw [World.size_alloc] at b2
  have HB := below_next (below_alloc' w (.cells #[.int .i64 hi, .int .u64 lo] 24)) (below_alloc' _ (.cells #[.bool false, .slice none 0 0] 38))
  generalize (w.alloc (.cells #[.int .i64 hi, .int .u64 lo] 24)).alloc (.cells #[.bool false, .slice none 0 0] 38) = w0 at *
  obtain ⟨_, a0, a1, _, _⟩ := id b1
  have B1 := b1.drew
  have B2 := b2.drew
  replace HB := HB.drew
  have ne1 : w.heap.size + 1 ≠ w.heap.size := by omega
  clear b1 b2
  go_region_held3 (fun w' => w'.cell? ⟨w.heap.size, 0, none⟩ = some (.int .i64 hi) ∧ w'.cell? ⟨w.heap.size, 1, none⟩ = some (.int .u64 lo)) (first | exact ⟨B1.c0, B1.c1⟩ | go_keep)
    (first
      | (go_at_call 36; refine (OH.out _).mono ?_; rintro e w1 ⟨p1, A1, n1, c1, rfl, z1, hb⟩
         have l1 := z1.small sh.out
         replace B1 := B1.below hb
         replace B2 := B2.below' hb
         replace HB := below_next HB hb
         clear hb
         obtain ⟨_, a2, a3, _, _⟩ := id B1)
      | (go_at_call 37; refine (power64 _).mono ?_; rintro e w2 ⟨p2, A2, n2, c2, rfl, z2, hb⟩
         have l2 := z2.small sp.out
         replace z1 := z1.below hb
         replace B1 := B1.below hb
         replace B2 := B2.below' hb
         replace HB := below_next HB hb
         clear hb
         obtain ⟨_, a2, a3, _, _⟩ := id B1)
      | (go_at_call 32; refine (mul_any p1 p2 A1 A2 n1 n2 c1 c2 _ _ _ z1 z2 (by omega) (by omega)).mono ?_; rintro e w3 ⟨p3, A3, n3, c3, rfl, z3, hb⟩
         have l3 := z3.small sm.out
         replace B1 := B1.below hb
         replace B2 := B2.below' hb
         replace HB := below_next HB hb
         clear hb
         obtain ⟨_, a2, a3, _, _⟩ := id B1)
      | (go_at_call 38; refine (OL.out _).mono ?_; rintro e w4 ⟨p4, A4, n4, c4, rfl, z4, hb⟩
         have l4 := z4.small sl.out
         replace z3 := z3.below hb
         replace B1 := B1.below hb
         replace B2 := B2.below' hb
         replace HB := below_next HB hb
         clear hb
         obtain ⟨_, a2, a3, _, _⟩ := id B1)
      | (go_at_call 23; refine (add_any p3 p4 A3 A4 n3 n4 c3 c4 _ _ _ z3 z4 (by omega) (by omega)).mono ?_; rintro e w5 ⟨p5, A5, n5, c5, rfl, z5, hb⟩
         replace B1 := B1.below hb
         replace B2 := B2.below' hb
         replace HB := below_next HB hb
         clear hb
         obtain ⟨_, a2, a3, _, _⟩ := id B1
         obtain ⟨_, d2, d3, e2, e3⟩ := id B2))
  go_wp2
  exact bodyPost_ret (v := .agg #[.bool p5, .slice A5 n5 c5]) (by simp [results, Try.results19, go_sem, d2, d3]) rfl (B2.ret z5 HB (by omega))
end Go.Proofs.Ytnopgdheffnfdaa
