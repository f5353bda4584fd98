/- The document's answer of layer 7, whole. -/
import Derived.Test.YtlidicnbmfkghaaDoorXref
import Derived.Test.YtlidicnbmfkghaaDoorGs
namespace Go.Proofs.YtlidicnbmfkghaaDoor
open Go.RowKit

theorem rightXR (y m d h i s n : Int) (w : World) : Calls Tryd.prog 9 #[.agg #[.int .i64 (y), .int .i64 (m), .int .i64 (d), .int .i64 (h), .int .i64 (i), .int .i64 (s), .int .i64 (n)]] w (RetV w (.bool (decide (okX y m d h i s n)))) := by
  by_cases kd : okD y m d
  · have DA := Lib.hid fun W => daysR_is kd W
    by_cases kt : okT h i s n
    · have RT := Lib.hid fun W => rightT_yes kt W
      have iff := okX_first kd kt
      by_cases f : numD y m d = -100000001
      · have hN : (numD y m d != -100000001) = false := by rw [bne_eq_false_iff_eq]; exact f
        by_cases z : h = 0 ∧ i = 0 ∧ s = 0 ∧ n = 0
        · rw [decide_eq_false (fun k => iff.1 k ⟨f, (time_zero kt).2 z⟩)]
          obtain ⟨rfl, rfl, rfl, rfl⟩ := z
          exact rightX_none y m d _ hN DA RT w
        · rw [decide_eq_true (iff.2 fun k => z ((time_zero kt).1 k.2))]
          by_cases z0 : h = 0
          · subst z0
            by_cases z1 : i = 0
            · subst z1
              by_cases z2 : s = 0
              · subst z2
                exact rightX_first_n y m d n _ hN (by rw [beq_eq_false_iff_ne]; exact fun e => z ⟨rfl, rfl, rfl, e⟩) DA RT w
              · exact rightX_first_s y m d s n _ hN (by rw [beq_eq_false_iff_ne]; exact z2) DA RT w
            · exact rightX_first_i y m d i s n _ hN (by rw [beq_eq_false_iff_ne]; exact z1) DA RT w
          · exact rightX_first_h y m d h i s n _ hN (by rw [beq_eq_false_iff_ne]; exact z0) DA RT w
      · rw [decide_eq_true (iff.2 fun k => f k.1)]
        exact rightX_yes y m d h i s n _ (by rw [bne_iff_ne]; exact f) DA RT w
    · rw [decide_eq_false (fun k => kt k.2.1)]
      exact rightX_time y m d h i s n _ DA (Lib.hid fun W => rightT_no kt W) w
  · rw [decide_eq_false (fun k => kd k.1)]
    exact rightX_date y m d h i s n _ (Lib.hid fun W => daysR_none kd W) w
theorem rightXR_is {y m d h i s n : Int} (k : okX y m d h i s n) (W : World) : Calls Tryd.prog 9 #[.agg #[.int .i64 (y), .int .i64 (m), .int .i64 (d), .int .i64 (h), .int .i64 (i), .int .i64 (s), .int .i64 (n)]] W (fun e w' => e = .returned (.bool true) ∧ Below W.heap.size W w') := by
  have c := rightXR y m d h i s n W
  rwa [decide_eq_true k] at c
theorem rightXR_none {y m d h i s n : Int} (k : ¬ okX y m d h i s n) (W : World) : Calls Tryd.prog 9 #[.agg #[.int .i64 (y), .int .i64 (m), .int .i64 (d), .int .i64 (h), .int .i64 (i), .int .i64 (s), .int .i64 (n)]] W (fun e w' => e = .returned (.bool false) ∧ Below W.heap.size W w') := by
  have c := rightXR y m d h i s n W
  rwa [decide_eq_false k] at c
theorem inW_X {N : Int} (lo : -20000000000000000000000 ≤ N) (hi : N ≤ 20000000000000000000000) : InW N := by unfold InW two127; omega
theorem nanosXR {y m d h i s n : Int} (k : okX y m d h i s n) (w : World) : Calls Tryd.prog 14 #[.agg #[.int .i64 (y), .int .i64 (m), .int .i64 (d), .int .i64 (h), .int .i64 (i), .int .i64 (s), .int .i64 (n)]] w (RetZ w (numX y m d h i s n)) := by
  have r := numX_range k
  have t := numT_range k.2.1
  obtain ⟨kd, kt, _⟩ := k
  have b := kd.2
  have e : numD y m d * 86400000000000 + numT h i s n = numX y m d h i s n := rfl
  have i1 : InW (numD y m d) := inW_X (by omega) (by omega)
  have i2 : InW (numT h i s n) := inW_X (by omega) (by omega)
  have i3 : InW (numD y m d * 86400000000000) := inW_X (by omega) (by omega)
  have i4 : InW (numX y m d h i s n) := inW_X (by omega) (by omega)
  exact nanosX_core y m d h i s n _ (numT h i s n) (numD y m d * 86400000000000) (numX y m d h i s n) (Lib.hid fun W => daysR_is kd W) (Lib.hid fun W => of_any _ (by omega) (by omega) W) (Lib.hid (small_w i1)) (Lib.hid fun W => dayR W) (Lib.hid day_small)
    (Lib.hid fun p q A B n m c d W h1 h2 h3 h4 => mul_any p q A B n m c d _ _ W h1 h2 h3 h4) (Lib.hid (small_w i3)) (Lib.hid fun W => nanosT h i s n kt W) (Lib.hid fun W => of_any _ (by omega) (by omega) W) (Lib.hid (small_w i2))
    (Lib.hid fun p q A B n m c d W h1 h2 h3 h4 => add_any p q A B n m c d _ _ W h1 h2 h3 h4) (Lib.hid (small_w i4)) w
/-- the date-time of a number -/
theorem ofXR_yes {x y m d h i s n : Int} (k : okX y m d h i s n) (e : numX y m d h i s n = x) (p : Bool) (A : Option Addr) (n' c : Nat) (w : World) (hz : Zs w p A n' c x) : Calls Tryd.prog 11 #[.agg #[.bool p, .slice A n' c]] w (RetXB w y m d h i s n true) := by
  have r := numX_range k
  have tr := numT_range k.2.1
  obtain ⟨e1, e2⟩ := numX_parts (y := y) (m := m) (d := d) k.2.1
  rw [e] at e1 e2 r
  obtain ⟨f1, f2⟩ := floor_parts (n := x) (d := 86400000000000) (by decide)
  have b := k.1.2
  have ix : InW x := inW_X (by omega) (by omega)
  have RI := Lib.hid fun W => rightXR_is k W
  refine ofX_yes p A n' c x (numD y m d) (numT h i s n) y m d h i s n (Lib.hid (small_w ix)) (Lib.hid fun W => dayR W) (Lib.hid day_small)
    (Lib.hid fun p q A B n m c d W h1 h2 h3 h4 => by have := div_any p q A B n m c d _ _ W h1 h2 h3 h4 (by decide); rwa [f1, f2, e1, e2] at this)
    (Lib.hid (small_w (inW_X (by omega) (by omega)))) (Lib.hid (small_w (inW_X (by omega) (by omega)))) (by omega) (by omega)
    (Lib.hid fun p A n c W h1 h2 => fits_yes p A n c _ W h1 h2 (by unfold two63; omega) (by unfold two63; omega)) (Lib.hid fun W => ofR_yes _ y m d k.1 rfl W)
    (Lib.hid fun p A n c W h1 h2 => fits_yes p A n c _ W h1 h2 (by unfold two63; omega) (by unfold two63; omega)) (Lib.hid fun W => ofT h i s n k.2.1 _ rfl W) RI w hz
theorem ofXR_no {x : Int} (sx : x.natAbs < 65536 ^ 9) (b : x ≤ -8640000086400000000000 ∨ 8640000086400000000000 ≤ x) (p : Bool) (A : Option Addr) (n' c : Nat) (w : World) (hz : Zs w p A n' c x) : Calls Tryd.prog 11 #[.agg #[.bool p, .slice A n' c]] w (RetXB w 0 0 0 0 0 0 0 false) := by
  obtain ⟨f1, f2⟩ := floor_parts (n := x) (d := 86400000000000) (by decide)
  have SX := Lib.hid sx
  have DY := Lib.hid fun W => dayR W
  have DV : Hid (∀ (p q : Bool) (A B : Option Addr) (n m c d : Nat) (W : World), Zs W p A n c x → Zs W q B m d 86400000000000 → n ≤ 3000 → m ≤ 3000 → Calls Tryd.prog 34 #[.agg #[.bool p, .slice A n c], .agg #[.bool q, .slice B m d]] W (RetQR W (x / 86400000000000) (x % 86400000000000))) :=
    Lib.hid fun p q A B n m c d W h1 h2 h3 h4 => by have := div_any p q A B n m c d _ _ W h1 h2 h3 h4 (by decide); rwa [f1, f2] at this
  have sq : Hid ((x / 86400000000000).natAbs < 65536 ^ 9) := Lib.hid (by rw [← f1]; exact quot_small sx (by decide))
  have sr : Hid ((x % 86400000000000).natAbs < 65536 ^ 9) := Lib.hid (by rw [← f2]; exact rest_small day_small (by decide))
  by_cases g : In64 (x / 86400000000000)
  · have FQ : Hid (∀ (p : Bool) (A : Option Addr) (n c : Nat) (W : World), Zs W p A n c (x / 86400000000000) → n ≤ 900000 → Calls Tryd.prog 36 #[.agg #[.bool p, .slice A n c]] W (fun e w' => e = .returned (.tuple #[.int .i64 (x / 86400000000000), .bool true]) ∧ Below W.heap.size W w')) :=
      Lib.hid fun p A n c W h1 h2 => fits_yes p A n c _ W h1 h2 (by unfold In64 at g; unfold two63; omega) (by unfold In64 at g; unfold two63; omega)
    by_cases g1 : x / 86400000000000 < -200000000
    · exact ofX_less p A n' c x _ _ SX DY (Lib.hid day_small) DV sq sr g1 FQ w hz
    by_cases g2 : 200000000 < x / 86400000000000
    · exact ofX_more p A n' c x _ _ SX DY (Lib.hid day_small) DV sq sr g1 g2 FQ w hz
    obtain ⟨h, i, s, n, kt, et⟩ := time_of (n := x % 86400000000000) (by omega) (by omega)
    have FR : Hid (∀ (p : Bool) (A : Option Addr) (n c : Nat) (W : World), Zs W p A n c (x % 86400000000000) → n ≤ 900000 → Calls Tryd.prog 36 #[.agg #[.bool p, .slice A n c]] W (fun e w' => e = .returned (.tuple #[.int .i64 (x % 86400000000000), .bool true]) ∧ Below W.heap.size W w')) :=
      Lib.hid fun p A n c W h1 h2 => fits_yes p A n c _ W h1 h2 (by unfold two63; omega) (by unfold two63; omega)
    have TO := Lib.hid fun W => ofT h i s n kt _ et W
    by_cases g3 : x / 86400000000000 < -100000001 ∨ 100000000 < x / 86400000000000
    · exact ofX_none p A n' c x _ _ 0 0 0 h i s n SX DY (Lib.hid day_small) DV sq sr g1 g2 FQ (Lib.hid fun W => ofR_no _ g3 W) FR TO w hz
    · obtain ⟨y, m, d, kd, ed⟩ := day_of (x / 86400000000000)
      have kD : okD y m d := ⟨kd, by omega, by omega⟩
      have no : ¬ okX y m d h i s n := fun k => by
        have r := numX_range k
        have e : numX y m d h i s n = numD y m d * 86400000000000 + numT h i s n := rfl
        omega
      exact ofX_wrong p A n' c x _ _ y m d h i s n SX DY (Lib.hid day_small) DV sq sr g1 g2 FQ (Lib.hid fun W => ofR_yes _ y m d kD ed W) FR TO (Lib.hid fun W => rightXR_none no W) w hz
  · refine ofX_big p A n' c x _ _ SX DY (Lib.hid day_small) DV sq sr (Lib.hid fun p A n c W h1 h2 => ?_) w hz
    by_cases g4 : two63 ≤ x / 86400000000000
    · exact fits_great p A n c _ W h1 h2 g4
    · exact fits_less p A n c _ W h1 h2 (by unfold In64 at g; unfold two63 at *; omega)
theorem addXR_bad {y m d h i s n : Int} (a : Int) (k : ¬ okX y m d h i s n) (w : World) : Calls Tryd.prog 18 #[.agg #[.int .i64 (y), .int .i64 (m), .int .i64 (d), .int .i64 (h), .int .i64 (i), .int .i64 (s), .int .i64 (n)], .agg #[.int .i64 (hiW a), .int .u64 (loW a)]] w (RetXE w 0 0 0 0 0 0 0 1) := addX_arg y m d h i s n a (Lib.hid fun W => rightXR_none k W) w
theorem add_smallX {x a : Int} (x0 : -8640000086400000000000 < x) (x1 : x < 8640000086400000000000) (ha : InW a) : (x + a).natAbs < 65536 ^ 9 := by
  have := abs_w ha
  exact small_2w (by omega)
theorem addXR_none {y m d h i s n a : Int} (k : okX y m d h i s n) (ha : InW a) (b : numX y m d h i s n + a ≤ -8640000086400000000000 ∨ 8640000086400000000000 ≤ numX y m d h i s n + a) (w : World) : Calls Tryd.prog 18 #[.agg #[.int .i64 (y), .int .i64 (m), .int .i64 (d), .int .i64 (h), .int .i64 (i), .int .i64 (s), .int .i64 (n)], .agg #[.int .i64 (hiW a), .int .u64 (loW a)]] w (RetXE w 0 0 0 0 0 0 0 4) := by
  have r := numX_range k
  have sg := add_smallX r.1 r.2 ha
  exact addX_none y m d h i s n a _ _ (Lib.hid fun W => rightXR_is k W) (Lib.hid fun W => nanosXR k W) (Lib.hid (small_w (inW_X (by omega) (by omega)))) (Lib.hid fun W => wof_z a ha W) (Lib.hid (small_w ha))
    (Lib.hid fun p q A B n m c d W h1 h2 h3 h4 => add_any p q A B n m c d _ _ W h1 h2 h3 h4) (Lib.hid sg) (Lib.hid fun p A n c W h1 _ => ofXR_no sg b p A n c W h1) w
theorem addXR {y m d h i s n a u0 u1 u2 u3 u4 u5 u6 : Int} (k : okX y m d h i s n) (ha : InW a) (ku : okX u0 u1 u2 u3 u4 u5 u6) (e : numX u0 u1 u2 u3 u4 u5 u6 = numX y m d h i s n + a) (w : World) : Calls Tryd.prog 18 #[.agg #[.int .i64 (y), .int .i64 (m), .int .i64 (d), .int .i64 (h), .int .i64 (i), .int .i64 (s), .int .i64 (n)], .agg #[.int .i64 (hiW a), .int .u64 (loW a)]] w (RetXE w u0 u1 u2 u3 u4 u5 u6 0) := by
  have r := numX_range k
  have sg := add_smallX r.1 r.2 ha
  exact addX_yes y m d h i s n a _ _ u0 u1 u2 u3 u4 u5 u6 (Lib.hid fun W => rightXR_is k W) (Lib.hid fun W => nanosXR k W) (Lib.hid (small_w (inW_X (by omega) (by omega)))) (Lib.hid fun W => wof_z a ha W) (Lib.hid (small_w ha))
    (Lib.hid fun p q A B n m c d W h1 h2 h3 h4 => add_any p q A B n m c d _ _ W h1 h2 h3 h4) (Lib.hid sg) (Lib.hid fun p A n c W h1 _ => ofXR_yes ku e p A n c W h1) w
/-- what a date-time's number becomes -/
def rndX (y m d h i s n ic mo : Int) : Int := numD y m d * 86400000000000 + rndT (numT h i s n) ic mo
/-- an increment and a mode that may be -/
def incOk (ic mo : Int) : Prop := 1 ≤ ic ∧ ic ≤ 86400000000000 ∧ (86400000000000 : Int) % ic = 0 ∧ 1 ≤ mo ∧ mo ≤ 9
instance (ic mo : Int) : Decidable (incOk ic mo) := by unfold incOk; infer_instance
theorem incOk_not {h m s n ic mo : Int} (k : ¬ incOk ic mo) : ¬ okT h m s n ∨ ic < 1 ∨ 86400000000000 < ic ∨ (86400000000000 : Int) % ic ≠ 0 ∨ mo < 1 ∨ 9 < mo := by
  apply Classical.byContradiction
  intro c
  refine k ⟨?_, ?_, ?_, ?_, ?_⟩
  all_goals apply Classical.byContradiction; intro g
  · exact c (.inr (.inl (by omega)))
  · exact c (.inr (.inr (.inl (by omega))))
  · exact c (.inr (.inr (.inr (.inl g))))
  · exact c (.inr (.inr (.inr (.inr (.inl (by omega))))))
  · exact c (.inr (.inr (.inr (.inr (.inr (by omega))))))
/-- which of two date-times is ahead -/
def cmpX (y m d h i s n y' m' d' h' i' s' n' : Int) : Int := if y = y' ∧ m = m' ∧ d = d' then cmpT h i s n h' i' s' n' else cmpD y m d y' m' d'
theorem cmpXR (y m d h i s n y' m' d' h' i' s' n' : Int) (w : World) : Calls Tryd.prog 21 #[.agg #[.int .i64 (y), .int .i64 (m), .int .i64 (d), .int .i64 (h), .int .i64 (i), .int .i64 (s), .int .i64 (n)], .agg #[.int .i64 (y'), .int .i64 (m'), .int .i64 (d'), .int .i64 (h'), .int .i64 (i'), .int .i64 (s'), .int .i64 (n')]] w (RetV w (.int .i64 (cmpX y m d h i s n y' m' d' h' i' s' n'))) := by
  unfold cmpX
  by_cases e1 : y = y'
  · subst e1
    by_cases e2 : m = m'
    · subst e2
      by_cases e3 : d = d'
      · subst e3
        rw [if_pos ⟨rfl, rfl, rfl⟩]
        exact cmpX_t y m d h i s n h' i' s' n' _ (Lib.hid fun W => cmpTR h i s n h' i' s' n' W) w
      · rw [if_neg (fun c => e3 c.2.2)]
        exact cmpX_d y m d h i s n d' h' i' s' n' _ e3 (Lib.hid fun W => cmpR y m d y m d' W) w
    · rw [if_neg (fun c => e2 c.2.1)]
      exact cmpX_m y m d h i s n m' d' h' i' s' n' _ e2 (Lib.hid fun W => cmpR y m d y m' d' W) w
  · rw [if_neg (fun c => e1 c.1)]
    exact cmpX_y y m d h i s n y' m' d' h' i' s' n' _ e1 (Lib.hid fun W => cmpR y m d y' m' d' W) w
end Go.Proofs.YtlidicnbmfkghaaDoor
