/- Package plain answers as the document says. -/
import Derived.Test.YtlidicnbmfkghaaGreatDoorPwalk
import Derived.Test.YtlidicnbmfkghaaGreatDoorGk
import Derived.Test.YtlidicnbmfkghaaGreatDoorGe
import Derived.Test.YtlidicnbmfkghaaGreatDoorWmul
namespace Go.Proofs.YtlidicnbmfkghaaGreatDoor
open Go.RowKit

theorem numD_in {y m d : Int} (k : okD y m d) : In64 (numD y m d) := by
  obtain ⟨_, a, b⟩ := k
  unfold In64; omega
theorem nanosP_yes {y m d h i s n : Int} (k : okX y m d h i s n) (W : World) (l : Tabs W) : Calls Tryz.prog 13 #[.agg #[.int .i64 (y), .int .i64 (m), .int .i64 (d), .int .i64 (h), .int .i64 (i), .int .i64 (s), .int .i64 (n)]] W (RetWB W (hiW (numX y m d h i s n)) (loW (numX y m d h i s n)) true) := by
  have f := (okX_first k.1 k.2.1).1 k
  have i1 := numD_in k.1
  have i2 := numT_in64 k.2.1
  have r := numX_range k
  have eX : numX y m d h i s n = numD y m d * 86400000000000 + numT h i s n := rfl
  have hp : InW (numD y m d * 86400000000000) := by
    obtain ⟨_, a, b⟩ := k.1
    unfold InW two127; omega
  have hs : InW (numD y m d * 86400000000000 + numT h i s n) := by rw [← eX]; unfold InW two127; omega
  have DA := fun (W : World) (l : Tabs W) => daysP_is k.1 W l.lens
  have NA := Lib.hid fun (W : World) (l : Tabs W) => nanosK_ok k.2.1 W l.sizes
  have MU := fun (W : World) (_ : Tabs W) => wideMul (numD y m d) 86400000000000 i1 (by decide) W
  have OF := Lib.hid fun (W : World) (_ : Tabs W) => wideOf (numT h i s n) i2 W
  have AD := Lib.hid fun (W : World) (_ : Tabs W) => add_in (numD y m d * 86400000000000) (numT h i s n) hp (inW_of_64 i2) hs W
  by_cases h0 : numD y m d = -100000001
  · have h1 : ¬ numT h i s n = 0 := fun c => f ⟨h0, c⟩
    rw [h0] at DA MU
    rw [h0] at AD
    have ans := nanosN_rest y m d h i s n _ _ _ _ _ _ _ _ h1 (Lib.hid DA) NA (Lib.hid MU) OF AD W l
    rw [eX, h0]
    exact ans
  · exact nanosN_day y m d h i s n _ _ _ _ _ _ _ _ _ h0 (Lib.hid DA) NA (Lib.hid MU) OF AD W l
theorem nanosP_no {y m d h i s n : Int} (k : ¬ okX y m d h i s n) (W : World) (l : Tabs W) : Calls Tryz.prog 13 #[.agg #[.int .i64 (y), .int .i64 (m), .int .i64 (d), .int .i64 (h), .int .i64 (i), .int .i64 (s), .int .i64 (n)]] W (RetWB W 0 0 false) := by
  by_cases kd : okD y m d
  case neg => exact nanosN_d y m d h i s n _ _ _ (Lib.hid fun W l => daysP_none kd W l.lens) (Lib.hid fun W l => nanosK h i s n W l.sizes) W l
  have DA := fun (W : World) (l : Tabs W) => daysP_is kd W l.lens
  by_cases kt : okT h i s n
  case neg => exact nanosN_t y m d h i s n _ _ (Lib.hid DA) (Lib.hid fun W l => nanosK_bad kt W l.sizes) W l
  have NA := fun (W : World) (l : Tabs W) => nanosK_ok kt W l.sizes
  have f : numD y m d = -100000001 ∧ numT h i s n = 0 := Classical.byContradiction fun c => k ((okX_first kd kt).2 c)
  rw [f.1] at DA
  rw [f.2] at NA
  exact nanosN_first y m d h i s n (Lib.hid DA) (Lib.hid NA) W l
theorem rightP_is {y m d h i s n : Int} (k : okX y m d h i s n) (W : World) (l : Tabs W) : Calls Tryz.prog 7 #[.agg #[.int .i64 (y), .int .i64 (m), .int .i64 (d), .int .i64 (h), .int .i64 (i), .int .i64 (s), .int .i64 (n)]] W (RetV W (.bool true)) :=
  rightN y m d h i s n _ _ _ (Lib.hid fun W l => nanosP_yes k W l) W l
theorem rightP_none {y m d h i s n : Int} (k : ¬ okX y m d h i s n) (W : World) (l : Tabs W) : Calls Tryz.prog 7 #[.agg #[.int .i64 (y), .int .i64 (m), .int .i64 (d), .int .i64 (h), .int .i64 (i), .int .i64 (s), .int .i64 (n)]] W (RetV W (.bool false)) :=
  rightN y m d h i s n _ _ _ (Lib.hid fun W l => nanosP_no k W l) W l
theorem movedP_over {y m d k : Int} (h i s n : Int) (kd : okD y m d) (b : numD y m d + k < -100000001 ∨ 100000000 < numD y m d + k) (W : World) (l : Tabs W) : Calls Tryz.prog 9 #[.agg #[.int .i64 (y), .int .i64 (m), .int .i64 (d)], .int .i64 k, .agg #[.int .i64 (h), .int .i64 (i), .int .i64 (s), .int .i64 (n)]] W (RetXE W 0 0 0 0 0 0 0 4) :=
  movedN_date y m d h i s n k _ _ _ (Lib.hid fun W l => addP_over kd b W l.lens) W l
theorem movedP_no {y m d k u0 u1 u2 h i s n : Int} (kd : okD y m d) (ku : okD u0 u1 u2) (e : numD u0 u1 u2 = numD y m d + k) (no : ¬ okX u0 u1 u2 h i s n) (W : World) (l : Tabs W) : Calls Tryz.prog 9 #[.agg #[.int .i64 (y), .int .i64 (m), .int .i64 (d)], .int .i64 k, .agg #[.int .i64 (h), .int .i64 (i), .int .i64 (s), .int .i64 (n)]] W (RetXE W 0 0 0 0 0 0 0 4) :=
  movedN_no y m d h i s n k _ _ _ (Lib.hid fun W l => addP kd ku e W l.lens) (Lib.hid fun W l => rightP_none no W l) W l
theorem movedP_yes {y m d k u0 u1 u2 h i s n : Int} (kd : okD y m d) (e : numD u0 u1 u2 = numD y m d + k) (ku : okX u0 u1 u2 h i s n) (W : World) (l : Tabs W) : Calls Tryz.prog 9 #[.agg #[.int .i64 (y), .int .i64 (m), .int .i64 (d)], .int .i64 k, .agg #[.int .i64 (h), .int .i64 (i), .int .i64 (s), .int .i64 (n)]] W (RetXE W u0 u1 u2 h i s n 0) :=
  movedN_yes y m d h i s n k _ _ _ (Lib.hid fun W l => addP kd ku.1 e W l.lens) (Lib.hid fun W l => rightP_is ku W l) W l
theorem addP_yes' {y m d h i s n a u0 u1 u2 u3 u4 u5 u6 : Int} (k : okX y m d h i s n) (ha : InW a) (ku : okX u0 u1 u2 u3 u4 u5 u6) (e : numX u0 u1 u2 u3 u4 u5 u6 = numX y m d h i s n + a) (W : World) (L : Tabs W) : Calls Tryz.prog 32 #[.agg #[.int .i64 (y), .int .i64 (m), .int .i64 (d), .int .i64 (h), .int .i64 (i), .int .i64 (s), .int .i64 (n)], .agg #[.int .i64 (hiW a), .int .u64 (loW a)]] W (RetXE W u0 u1 u2 u3 u4 u5 u6 0) := by
  have eX : numX y m d h i s n = numD y m d * 86400000000000 + numT h i s n := rfl
  have eU : numX u0 u1 u2 u3 u4 u5 u6 = numD u0 u1 u2 * 86400000000000 + numT u3 u4 u5 u6 := rfl
  have r := numT_range k.2.1
  have ur := numT_range ku.2.1
  have dk := k.1.2
  have du := ku.1.2
  have hq : In64 ((numT h i s n + a) / 86400000000000) := by unfold In64; omega
  exact addN_core y m d h i s n a _ _ _ _ _ _ _ _ _ _ _ _ _ (Lib.hid fun W l => rightP_is k W l) (Lib.hid fun W l => clockP.add_yes h i s n a u3 u4 u5 u6 k.2.1 ha hq ku.2.1 (by omega) W l.sizes) (Lib.hid fun W l => movedP_yes k.1 (by omega) ku W l) W L
theorem addP_none' {y m d h i s n a : Int} (k : okX y m d h i s n) (ha : InW a) (b : numX y m d h i s n + a ≤ -8640000086400000000000 ∨ 8640000086400000000000 ≤ numX y m d h i s n + a) (W : World) (L : Tabs W) : Calls Tryz.prog 32 #[.agg #[.int .i64 (y), .int .i64 (m), .int .i64 (d), .int .i64 (h), .int .i64 (i), .int .i64 (s), .int .i64 (n)], .agg #[.int .i64 (hiW a), .int .u64 (loW a)]] W (RetXE W 0 0 0 0 0 0 0 4) := by
  have eX : numX y m d h i s n = numD y m d * 86400000000000 + numT h i s n := rfl
  have r := numT_range k.2.1
  have dk := k.1.2
  have RI := Lib.hid fun W l => rightP_is k W l
  by_cases hq : In64 ((numT h i s n + a) / 86400000000000)
  case neg => exact addN_over y m d h i s n a _ _ _ _ _ RI (Lib.hid fun W l => clockP.add_over h i s n a k.2.1 ha hq W l.sizes) W L
  obtain ⟨t0, t1, t2, t3, kt, et⟩ := time_of (n := (numT h i s n + a) % 86400000000000) (by omega) (by omega)
  have CA := Lib.hid fun W (l : Tabs W) => clockP.add_yes h i s n a t0 t1 t2 t3 k.2.1 ha hq kt et W l.sizes
  by_cases hr : numD y m d + (numT h i s n + a) / 86400000000000 < -100000001 ∨ 100000000 < numD y m d + (numT h i s n + a) / 86400000000000
  · exact addN_core y m d h i s n a _ _ _ _ _ _ _ _ _ _ _ _ _ RI CA (Lib.hid fun W l => movedP_over t0 t1 t2 t3 k.1 hr W l) W L
  obtain ⟨v0, v1, v2, kv, ev⟩ := day_of (numD y m d + (numT h i s n + a) / 86400000000000)
  have no : ¬ okX v0 v1 v2 t0 t1 t2 t3 := fun c => by
    have cr := numX_range c
    have ec : numX v0 v1 v2 t0 t1 t2 t3 = numD v0 v1 v2 * 86400000000000 + numT t0 t1 t2 t3 := rfl
    omega
  exact addN_core y m d h i s n a _ _ _ _ _ _ _ _ _ _ _ _ _ RI CA (Lib.hid fun W l => movedP_no k.1 ⟨kv, by omega, by omega⟩ ev no W l) W L
theorem or2_cmp (y m d h i s n y' m' d' h' i' s' n' : Int) : or2 (cmpD y m d y' m' d') (cmpT h i s n h' i' s' n') = cmpX y m d h i s n y' m' d' h' i' s' n' := by
  have z : cmpD y m d y' m' d' = 0 ↔ (y = y' ∧ m = m' ∧ d = d') := by
    unfold cmpD
    repeat' split
    all_goals omega
  unfold or2 cmpX
  by_cases e : y = y' ∧ m = m' ∧ d = d'
  · rw [if_pos (z.2 e), if_pos e]
  · rw [if_neg (fun c => e (z.1 c)), if_neg e]
theorem ok1970 : okX 1970 1 1 0 0 0 0 := by decide
theorem num1970 : numX 1970 1 1 0 0 0 0 = 0 := by decide
theorem sub_in (a b : Int) (ha : InW a) (hb : InW b) (h : InW (a - b)) (W : World) : Calls Tryz.prog 39 #[.agg #[.int .i64 (hiW a), .int .u64 (loW a)], .agg #[.int .i64 (hiW b), .int .u64 (loW b)]] W (fun o w' => o = .returned (.tuple #[.agg #[.int .i64 (hiW (a - b)), .int .u64 (loW (a - b))], .int .i64 0]) ∧ Below W.heap.size W w') := by
  have c := wideSub a b ha hb W
  unfold RetWE hv lv ev at c
  rwa [if_pos h, if_pos h, if_pos h] at c
theorem numX_inW {y m d h i s n : Int} (k : okX y m d h i s n) : InW (numX y m d h i s n) := by
  have := numX_range k
  unfold InW two127; omega
theorem plainP : PlainP where
  right y m d h i s n _ _ _ _ _ _ _ W L := by
    by_cases k : okX y m d h i s n
    · rw [decide_eq_true k]; exact rightP_is k W L
    · rw [decide_eq_false k]; exact rightP_none k W L
  nanos_yes y m d h i s n k W L := nanosP_yes k W L
  nanos_no y m d h i s n _ _ _ _ _ _ _ k W L := nanosP_no k W L
  of_yes a y m d h i s n k e W L := by
    have r := numX_inW k
    rw [e] at r
    exact ofN_yes a _ _ _ _ _ _ _ (Lib.hid fun W l => addP_yes' ok1970 r k (by rw [num1970, e]; omega) W l) W L
  of_no a ha b W L := ofN_no a _ _ _ _ _ _ _ (Lib.hid fun W l => addP_none' ok1970 ha (by rw [num1970]; omega) W l) W L
  add_bad y m d h i s n a _ _ _ _ _ _ _ _ k W L := addN_bad y m d h i s n a (Lib.hid fun W l => rightP_none k W l) W L
  add_none y m d h i s n a k ha b W L := addP_none' k ha b W L
  add_yes y m d h i s n a u0 u1 u2 u3 u4 u5 u6 k ha ku e W L := addP_yes' k ha ku e W L
  round_bad y m d h i s n ic mo _ _ _ h1 h2 h3 h4 h5 h6 b W L := by
    by_cases k : okX y m d h i s n
    · have g : ¬ incOk ic mo := by
        rcases b with c | c
        · exact absurd k c
        · exact c
      exact roundN_no y m d h i s n ic mo _ _ _ _ _ (Lib.hid fun W l => rightP_is k W l) (Lib.hid fun W l => clockP.round_bad h i s n ic mo h1 h2 h3 h4 h5 h6 (incOk_not g) W l.sizes) W L
    · exact roundN_bad y m d h i s n ic mo (Lib.hid fun W l => rightP_none k W l) W L
  round_over y m d h i s n ic mo k g b W L := by
    obtain ⟨g1, g2, g3, g4, g5⟩ := g
    have RI := Lib.hid fun W l => rightP_is k W l
    obtain ⟨kd, kt, lo⟩ := k
    have r := numT_range kt
    have q := rnd_range (mo := mo) r.1 r.2 (by omega) g3
    have dr := kd.2
    have eX : rndX y m d h i s n ic mo = numD y m d * 86400000000000 + rndT (numT h i s n) ic mo := rfl
    by_cases e : rndT (numT h i s n) ic mo = 86400000000000
    · exact roundN_core y m d h i s n ic mo _ _ _ _ _ _ _ _ _ _ _ _ _ RI (Lib.hid fun W l => clockP.round_day h i s n ic mo kt (by omega) (by omega) g3 g4 g5 e W l.sizes) (Lib.hid fun W l => movedP_over 0 0 0 0 kd (by omega) W l) W L
    · obtain ⟨x0, x1, x2, x3, hx, ex⟩ := time_of (n := rndT (numT h i s n) ic mo) q.1 (by omega)
      have no : ¬ okX y m d x0 x1 x2 x3 := fun c => by
        have cr := numX_range c
        have ec : numX y m d x0 x1 x2 x3 = numD y m d * 86400000000000 + numT x0 x1 x2 x3 := rfl
        omega
      exact roundN_core y m d h i s n ic mo _ _ _ _ _ _ _ _ _ _ _ _ _ RI (Lib.hid fun W l => clockP.round_yes h i s n ic mo x0 x1 x2 x3 kt (by omega) (by omega) g3 g4 g5 hx ex W l.sizes) (Lib.hid fun W l => movedP_no kd kd (by omega) no W l) W L
  round_yes y m d h i s n ic mo u0 u1 u2 u3 u4 u5 u6 k g ku eu W L := by
    obtain ⟨g1, g2, g3, g4, g5⟩ := g
    have RI := Lib.hid fun W l => rightP_is k W l
    obtain ⟨kd, kt, lo⟩ := k
    have r := numT_range kt
    have q := rnd_range (mo := mo) r.1 r.2 (by omega) g3
    have ur := numT_range ku.2.1
    have eX : rndX y m d h i s n ic mo = numD y m d * 86400000000000 + rndT (numT h i s n) ic mo := rfl
    have eU : numX u0 u1 u2 u3 u4 u5 u6 = numD u0 u1 u2 * 86400000000000 + numT u3 u4 u5 u6 := rfl
    by_cases e : rndT (numT h i s n) ic mo = 86400000000000
    · obtain ⟨z1, z2, z3, z4⟩ := (time_zero ku.2.1).1 (by omega)
      subst z1 z2 z3 z4
      exact roundN_core y m d h i s n ic mo _ _ _ _ _ _ _ _ _ _ _ _ _ RI (Lib.hid fun W l => clockP.round_day h i s n ic mo kt (by omega) (by omega) g3 g4 g5 e W l.sizes) (Lib.hid fun W l => movedP_yes kd (by omega) ku W l) W L
    · obtain ⟨rfl, rfl, rfl⟩ := num_inj kd.1 ku.1.1 (by omega)
      exact roundN_core y m d h i s n ic mo _ _ _ _ _ _ _ _ _ _ _ _ _ RI (Lib.hid fun W l => clockP.round_yes h i s n ic mo u3 u4 u5 u6 kt (by omega) (by omega) g3 g4 g5 ku.2.1 (by omega) W l.sizes) (Lib.hid fun W l => movedP_yes kd (by omega) ku W l) W L
end Go.Proofs.YtlidicnbmfkghaaGreatDoor
