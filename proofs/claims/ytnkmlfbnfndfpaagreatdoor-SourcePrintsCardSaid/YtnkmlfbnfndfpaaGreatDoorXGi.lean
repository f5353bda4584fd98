import Derived.Test.YtnkmlfbnfndfpaaGreatDoorXGj
import Derived.Lib.IndexAny
import Derived.Lib.Bytealg
import Derived.Laws.Externs
import Derived.Test.YtnkmlfbnfndfpaaGreatDoorXGf
import Derived.RangeFuncNested
import Derived.RangeFuncBound
import Derived.RangeFuncCalls
import Derived.RangeFuncLeaves
import Derived.RangeFuncBox
import Derived.Test.YtnkmlfbnfndfpaaGreatDoorXGw
import Derived.Shelf.Abstract
import Derived.Shelf.RegionOpen
import Derived.WalkKit
import Derived.OwnWalkIn
import Derived.TacticsInMore
import Derived.LoopNIn
import Derived.LoopIn
import Derived.Test.YtnkmlfbnfndfpaaGreatDoorXGy
import Derived.Test.YtnkmlfbnfndfpaaGreatDoorXGm
import Derived.Test.YtnkmlfbnfndfpaaGreatDoorXGq
import Derived.Test.YtnkmlfbnfndfpaaGreatDoorXHdata
import Derived.Shelf.Strconv.ParseUint10At
import Derived.Shelf.Strconv.ToError
import Derived.Shelf.Strconv.ToErrorRange
import Derived.Test.YtnkmlfbnfndfpaaGreatDoorProg
import Derived.Shelf.RegionOpenPlain
import Derived.Test.YtnkmlfbnfndfpaaGreatDoorXGl
import Derived.Test.YtnkmlfbnfndfpaaGreatDoorXUparsed
import Derived.Maps.AppendAt
import Derived.Test.YtnkmlfbnfndfpaaGreatDoorXYpar
import Derived.Deep.AppendLies
import Derived.Deep.RegionLaw
import Derived.BigQuiet
import Derived.Maps.Own
import Derived.RangeFuncRecord
set_option maxRecDepth 100000
set_option maxHeartbeats 64000000
namespace Go.Proofs.YtnkmlfbnfndfpaaGreatDoor
open Go.RowKit
def madeB (s : ByteArray) (most : Int) (l : List Nat) : Bool := decide (0 < s.size) && decide ((s.size : Int) ≤ most) && allB (kindB l) s s.size
theorem letterP (c : Nat) (w : World) : Calls Tryz.prog 69 #[.int .u8 c] w (SameV w (.bool (ltrB c))) := by
  by_cases h1 : 65 ≤ c
  · have d1 : decide ((65 : Int) ≤ c) = true := decide_eq_true (by omega)
    by_cases h2 : c ≤ 90
    · have d2 : decide ((c : Int) ≤ 90) = true := decide_eq_true (by omega)
      have E := Lib.hid (show ltrB c = true by unfold ltrB; rw [decide_eq_true (p := 65 ≤ c ∧ c ≤ 90) ⟨h1, h2⟩, Bool.or_true])
      go_enter Tryz.func69, Tryz.ntmps69
      go_wp2
      go_ret
      exact ⟨by rw [E.out]; rfl, rfl⟩
    have d2 : decide ((c : Int) ≤ 90) = false := decide_eq_false (by omega)
    have E := Lib.hid (show ltrB c = (decide ((97 : Int) ≤ c) && decide ((c : Int) ≤ 122)) by
      unfold ltrB
      rw [decide_eq_false (p := 65 ≤ c ∧ c ≤ 90) (by omega), Bool.or_false, Bool.eq_iff_iff]
      simp only [Bool.and_eq_true, decide_eq_true_eq]
      omega)
    by_cases h3 : 97 ≤ c
    · have d3 : decide ((97 : Int) ≤ c) = true := decide_eq_true (by omega)
      rw [d3] at E
      go_enter Tryz.func69, Tryz.ntmps69
      go_wp2
      go_ret
      exact ⟨by rw [E.out]; simp, rfl⟩
    · have d3 : decide ((97 : Int) ≤ c) = false := decide_eq_false (by omega)
      rw [d3] at E
      go_enter Tryz.func69, Tryz.ntmps69
      go_wp2
      go_ret
      exact ⟨by rw [E.out]; rfl, rfl⟩
  · have d1 : decide ((65 : Int) ≤ c) = false := decide_eq_false (by omega)
    have d3 : decide ((97 : Int) ≤ c) = false := decide_eq_false (by omega)
    have E := Lib.hid (show ltrB c = false by unfold ltrB; rw [decide_eq_false (by omega), decide_eq_false (by omega)]; rfl)
    go_enter Tryz.func69, Tryz.ntmps69
    go_wp2
    go_ret
    exact ⟨by rw [E.out]; rfl, rfl⟩
theorem digitP (c : Nat) (w : World) : Calls Tryz.prog 70 #[.int .u8 c] w (SameV w (.bool (dgtB c))) := by
  by_cases h1 : 48 ≤ c
  · have d1 : decide ((48 : Int) ≤ c) = true := decide_eq_true (by omega)
    by_cases h2 : c ≤ 57
    · have d2 : decide ((c : Int) ≤ 57) = true := decide_eq_true (by omega)
      have E := Lib.hid (show dgtB c = true from decide_eq_true ⟨h1, h2⟩)
      go_enter Tryz.func70, Tryz.ntmps70
      go_wp2
      go_ret
      exact ⟨by rw [E.out]; rfl, rfl⟩
    · have d2 : decide ((c : Int) ≤ 57) = false := decide_eq_false (by omega)
      have E := Lib.hid (show dgtB c = false from decide_eq_false (by omega))
      go_enter Tryz.func70, Tryz.ntmps70
      go_wp2
      go_ret
      exact ⟨by rw [E.out]; rfl, rfl⟩
  · have d1 : decide ((48 : Int) ≤ c) = false := decide_eq_false (by omega)
    have E := Lib.hid (show dgtB c = false from decide_eq_false (by omega))
    go_enter Tryz.func70, Tryz.ntmps70
    go_wp2
    go_ret
    exact ⟨by rw [E.out]; rfl, rfl⟩
theorem indexByteP (s : ByteArray) (c : UInt8) (w : World) : Calls Tryz.prog 71 #[.string s, .int .u8 c.toNat] w (SameV w (.int .i64 (Lib.indexByte s.data.toList c))) := by
  go_enter Tryz.func71, Tryz.ntmps71
  go_wp2
  rw [run_callFunc_extern Tryz.func127 (by kernel_rfl) (by kernel_rfl) (by kernel_rfl) (e := Extern.BytealgIndexByte.indexByte) (by kernel_rfl), Lib.run_indexByteString]
  simp only [Result.andThen]
  rw [Oper.upon_value]
  go_wp2
  go_ret
  exact ⟨by simp, rfl⟩
theorem has_of {m : ByteArray} {l : List Nat} (hl : m.data.toList.map UInt8.toNat = l) (c : UInt8) : l.contains c.toNat = decide (0 ≤ Lib.indexByte m.data.toList c) := by
  rw [← Lib.contains_iff_indexByte, ← hl]
  induction m.data.toList with
  | nil => rfl
  | cons a r ih =>
    rw [List.map_cons, List.contains_cons, List.contains_cons, ih]
    congr 1
    rw [Bool.eq_iff_iff, beq_iff_eq, beq_iff_eq]
    exact ⟨fun h => UInt8.toNat_inj.1 h, fun h => by rw [h]⟩
theorem madeP (s m : ByteArray) (most : Int) (l : List Nat) (hl : m.data.toList.map UInt8.toNat = l) (hs : s.size ≤ maxLen) (w : World) :
    Calls Tryz.prog 35 #[.string s, .int .i64 most, .string m] w (SameV w (.bool (madeB s most l))) := by
  have sz : s.size ≤ 9223372036854775807 := hs
  by_cases h0 : s = ⟨#[]⟩
  · subst h0
    have E := Lib.hid (show madeB ⟨#[]⟩ most l = false from rfl)
    go_enter Tryz.func35, Tryz.ntmps35
    go_wp2
    go_ret
    exact ⟨by rw [E.out]; rfl, rfl⟩
  have p0 : 0 < s.size := by
    apply Nat.pos_of_ne_zero
    intro c
    exact h0 (ByteArray.ext (Array.eq_empty_of_size_eq_zero c))
  have n0 : (s.toList == []) = false := by
    rw [beq_eq_false_iff_ne]
    intro c
    rw [ByteArray.toList_eq] at c
    have := congrArg List.length c
    rw [Array.length_toList] at this
    exact absurd (show s.size = 0 from this) (by omega)
  have n1 : s.toList.isEmpty = false := by
    rw [← Bool.not_eq_true, List.isEmpty_iff]
    intro c
    rw [c] at n0
    exact absurd n0 (by decide)
  have n2 : ¬ s.toList = [] := by
    intro c
    rw [c] at n0
    exact absurd n0 (by decide)
  clear h0
  by_cases h1 : most < s.size
  · have d1 : decide (most < (s.size : Int)) = true := decide_eq_true h1
    have E := Lib.hid (show madeB s most l = false by unfold madeB; rw [decide_eq_false (p := (s.size : Int) ≤ most) (by omega), Bool.and_false, Bool.false_and])
    go_enter Tryz.func35, Tryz.ntmps35
    go_wp2
    go_ret
    exact ⟨by rw [E.out]; rfl, rfl⟩
  have d1 : decide (most < (s.size : Int)) = false := decide_eq_false h1
  have E := Lib.hid (show madeB s most l = allB (kindB l) s s.size by unfold madeB; rw [decide_eq_true p0, decide_eq_true (p := (s.size : Int) ≤ most) (by omega)]; rfl)
  have HL := Lib.hid (has_of hl)
  have LT := Lib.hid letterP
  have DG := Lib.hid digitP
  have IB := Lib.hid (indexByteP m)
  clear h1 hl hs
  go_enter Tryz.func35, Tryz.ntmps35
  go_wp2_with fail
  go_loop [7, 8, 19] (fun v7 v8 v19 => ∃ k : Nat, k ≤ s.size ∧ v19 = .int .i64 k ∧ allB (kindB l) s k = true) (fun _ _ v => s.size - (intOf v).toNat)
  case atStart => exact ⟨0, by omega, rfl, rfl⟩
  case round =>
    obtain ⟨k, hk, rfl, ha⟩ := hrel
    have HA := Lib.hid ha
    clear ha
    by_cases hk2 : k < s.size
    · have d2 : decide ((k : Int) < s.size) = true := decide_eq_true (by omega)
      have LW := Lib.hid (LT.out s[k].toNat)
      cases e1 : ltrB s[k].toNat with
      | true =>
        rw [e1] at LW
        have HB := Lib.hid (allB_on hk2 HA.out (show kindB l s[k].toNat = true by unfold kindB; rw [e1]; rfl))
        clear e1 HA
        go_wp2_with (go_at_call 69; refine (LW.out _).mono ?_; rintro e w' ⟨rfl, rfl⟩)
        go_round
        case rel => exact ⟨k + 1, by omega, int_eqS (by omega), HB.out⟩
        case measure => simp only [intOf]; omega
      | false =>
        rw [e1] at LW
        have DW := Lib.hid (DG.out s[k].toNat)
        cases e2 : dgtB s[k].toNat with
        | true =>
          rw [e2] at DW
          have HB := Lib.hid (allB_on hk2 HA.out (show kindB l s[k].toNat = true by unfold kindB; rw [e1, e2]; rfl))
          clear e1 e2 HA
          go_wp2_with (first | (go_at_call 69; refine (LW.out _).mono ?_; rintro e w' ⟨rfl, rfl⟩) | (go_at_call 70; refine (DW.out _).mono ?_; rintro e w' ⟨rfl, rfl⟩))
          go_round
          case rel => exact ⟨k + 1, by omega, int_eqS (by omega), HB.out⟩
          case measure => simp only [intOf]; omega
        | false =>
          rw [e2] at DW
          have IW := Lib.hid (IB.out s[k])
          have hc := HL.out s[k]
          by_cases h3 : 0 ≤ Lib.indexByte m.data.toList s[k]
          · rw [decide_eq_true h3] at hc
            have HB := Lib.hid (allB_on hk2 HA.out (show kindB l s[k].toNat = true by unfold kindB; rw [e1, e2, hc]; rfl))
            generalize Lib.indexByte m.data.toList s[k] = q at *
            have d3 : decide (q < 0) = false := decide_eq_false (by omega)
            clear e1 e2 HA hc
            go_wp2_with (first | (go_at_call 69; refine (LW.out _).mono ?_; rintro e w' ⟨rfl, rfl⟩) | (go_at_call 70; refine (DW.out _).mono ?_; rintro e w' ⟨rfl, rfl⟩) | (go_at_call 71; refine (IW.out _).mono ?_; rintro e w' ⟨rfl, rfl⟩))
            go_round
            case rel => exact ⟨k + 1, by omega, int_eqS (by omega), HB.out⟩
            case measure => simp only [intOf]; omega
          · rw [decide_eq_false h3] at hc
            have HB := Lib.hid (allB_no (p := kindB l) hk2 (show kindB l s[k].toNat = false by unfold kindB; rw [e1, e2, hc]; rfl))
            generalize Lib.indexByte m.data.toList s[k] = q at *
            have d3 : decide (q < 0) = true := decide_eq_true (by omega)
            clear e1 e2 HA hc
            go_wp2_with (first | (go_at_call 69; refine (LW.out _).mono ?_; rintro e w' ⟨rfl, rfl⟩) | (go_at_call 70; refine (DW.out _).mono ?_; rintro e w' ⟨rfl, rfl⟩) | (go_at_call 71; refine (IW.out _).mono ?_; rintro e w' ⟨rfl, rfl⟩))
            go_ret
            exact ⟨by rw [E.out, HB.out]; rfl, rfl⟩
    · have d2 : decide ((k : Int) < s.size) = false := decide_eq_false (by omega)
      obtain rfl : k = s.size := by omega
      go_wp2_with fail
      go_ret
      exact ⟨by rw [E.out, HA.out]; rfl, rfl⟩
def begunB (s : ByteArray) : Bool := if h : 0 < s.size then ltrB s[0].toNat || s[0].toNat == 95 else false
theorem begunP (s : ByteArray) (hs : s.size ≤ maxLen) (w : World) : Calls Tryz.prog 36 #[.string s] w (SameV w (.bool (begunB s))) := by
  have sz : s.size ≤ 9223372036854775807 := hs
  by_cases h0 : s = ⟨#[]⟩
  · subst h0
    have E := Lib.hid (show begunB ⟨#[]⟩ = false from rfl)
    go_enter Tryz.func36, Tryz.ntmps36
    go_wp2
    go_ret
    exact ⟨by rw [E.out]; rfl, rfl⟩
  have p0 : 0 < s.size := by
    apply Nat.pos_of_ne_zero
    intro c
    exact h0 (ByteArray.ext (Array.eq_empty_of_size_eq_zero c))
  have n0 : (s.toList == []) = false := by
    rw [beq_eq_false_iff_ne]
    intro c
    rw [ByteArray.toList_eq] at c
    have := congrArg List.length c
    rw [Array.length_toList] at this
    exact absurd (show s.size = 0 from this) (by omega)
  have n1 : s.toList.isEmpty = false := by
    rw [← Bool.not_eq_true, List.isEmpty_iff]
    intro c
    rw [c] at n0
    exact absurd n0 (by decide)
  have n2 : ¬ s.toList = [] := by
    intro c
    rw [c] at n0
    exact absurd n0 (by decide)
  clear h0 hs
  have E : Hid (begunB s = (ltrB s[0].toNat || s[0].toNat == 95)) := Lib.hid (dif_pos p0)
  have LW := Lib.hid (letterP s[0].toNat)
  cases e1 : ltrB s[0].toNat with
  | true =>
    rw [e1] at LW E
    clear e1
    go_enter Tryz.func36, Tryz.ntmps36
    go_wp2_with (go_at_call 69; refine (LW.out _).mono ?_; rintro e w' ⟨rfl, rfl⟩)
    go_ret
    exact ⟨by rw [E.out]; rfl, rfl⟩
  | false =>
    rw [e1] at LW E
    clear e1
    by_cases h2 : s[0].toNat = 95
    · have f : ((s[0].toNat : Int) == 95) = true := by rw [beq_iff_eq]; omega
      have E2 := Lib.hid (E.out.trans (show (false || s[0].toNat == 95) = true by rw [beq_iff_eq.2 h2]; rfl))
      clear E h2
      go_enter Tryz.func36, Tryz.ntmps36
      go_wp2_with (go_at_call 69; refine (LW.out _).mono ?_; rintro e w' ⟨rfl, rfl⟩)
      go_ret
      exact ⟨by rw [E2.out]; rfl, rfl⟩
    · have f : ((s[0].toNat : Int) == 95) = false := by rw [beq_eq_false_iff_ne]; omega
      have E2 := Lib.hid (E.out.trans (show (false || s[0].toNat == 95) = false by rw [beq_eq_false_iff_ne.2 h2]; rfl))
      clear E h2
      go_enter Tryz.func36, Tryz.ntmps36
      go_wp2_with (go_at_call 69; refine (LW.out _).mono ?_; rintro e w' ⟨rfl, rfl⟩)
      go_ret
      exact ⟨by rw [E2.out]; rfl, rfl⟩
theorem set_made (s : ByteArray) : setB s = (madeB s 20 [95, 45] && begunB s) := by
  unfold setB madeB begunB
  by_cases h : 0 < s.size
  · by_cases h2 : s.size ≤ 20
    · rw [dif_pos ⟨h, h2⟩, dif_pos h, decide_eq_true h, decide_eq_true (p := (s.size : Int) ≤ 20) (by omega)]
      cases ha : allB (kindB [95, 45]) s s.size with
      | false => simp
      | true =>
        have h1 : allB (kindB [95, 45]) s 1 = true := by
          cases hb : allB (kindB [95, 45]) s 1 with
          | true => rfl
          | false => have := allB_off (s.size - 1) hb; rw [show 1 + (s.size - 1) = s.size by omega, ha] at this; exact absurd this (by decide)
        rw [allB_succ h] at h1
        have h3 : kindB [95, 45] s[0].toNat = true := by
          rw [Bool.and_eq_true] at h1
          exact h1.2
        generalize s[0].toNat = c at *
        unfold kindB dgtB ltrB at *
        simp only [List.contains_cons, List.contains_nil, Bool.or_false, Bool.and_true, Bool.true_and, Bool.or_eq_true, decide_eq_true_eq, beq_iff_eq] at h3 ⊢
        rw [Bool.eq_iff_iff]
        simp only [Bool.and_eq_true, Bool.not_eq_true', decide_eq_false_iff_not, beq_eq_false_iff_ne, Bool.or_eq_true, decide_eq_true_eq, beq_iff_eq]
        omega
    · rw [dif_neg (fun c => h2 c.2), decide_eq_false (p := (s.size : Int) ≤ 20) (by omega), Bool.and_false, Bool.false_and, Bool.false_and]
  · rw [dif_neg (fun c => h c.1), dif_neg h, Bool.and_false]
theorem setP (s : ByteArray) (hs : s.size ≤ maxLen) (w : World) : Calls Tryz.prog 18 #[.string s] w (SameV w (.bool (setB s))) := by
  have MD := Lib.hid (madeP s ⟨#[95, 45]⟩ 20 [95, 45] rfl hs)
  have BG := Lib.hid (begunP s hs)
  have E := Lib.hid (set_made s)
  clear hs
  cases e1 : madeB s 20 [95, 45] with
  | false =>
    rw [e1] at MD E
    clear e1
    go_enter Tryz.func18, Tryz.ntmps18
    go_wp2_with (go_at_call 35; refine (MD.out _).mono ?_; rintro e w' ⟨rfl, rfl⟩)
    go_ret
    exact ⟨by rw [E.out]; rfl, rfl⟩
  | true =>
    rw [e1] at MD E
    clear e1
    go_enter Tryz.func18, Tryz.ntmps18
    go_wp2_with (first | (go_at_call 35; refine (MD.out _).mono ?_; rintro e w' ⟨rfl, rfl⟩) | (go_at_call 36; refine (BG.out _).mono ?_; rintro e w' ⟨rfl, rfl⟩))
    go_ret
    exact ⟨by rw [E.out]; simp, rfl⟩
def noSl (c : Int) : Bool := c != 47
theorem noSl_of {r : ByteArray} {k : Nat} (h : k < r.size) (n : ¬ r[k] = 47) : noSl r[k].toNat = true := by
  unfold noSl
  rw [bne_iff_ne]
  intro c
  exact n (by rw [← UInt8.toNat_inj]; show r[k].toNat = 47; omega)
theorem noSl_at {r : ByteArray} {k : Nat} (h : k < r.size) (n : noSl r[k].toNat = false) : r[k].toNat = 47 := by
  unfold noSl at n
  rw [bne_eq_false_iff_eq] at n
  omega
theorem idx_sl (r : ByteArray) : (endOf noSl r 0 < r.size → Lib.indexByte r.data.toList 47 = (endOf noSl r 0 : Int)) ∧ (¬ endOf noSl r 0 < r.size → Lib.indexByte r.data.toList 47 = -1) := by
  have ge := Lib.indexByte_ge r.data.toList 47
  by_cases h : Lib.indexByte r.data.toList 47 = -1
  · have all := Lib.indexByte_none h
    have e : endOf noSl r 0 = r.size := endOf_eq (Nat.zero_le _) (Nat.le_refl _) (fun j g _ _ => noSl_of g (fun c => all j (by rw [get_list, dif_pos g, c]))) (fun g => absurd g (by omega))
    exact ⟨fun c => by omega, fun _ => h⟩
  · obtain ⟨o, ho⟩ : ∃ o : Nat, Lib.indexByte r.data.toList 47 = (o : Int) := ⟨(Lib.indexByte r.data.toList 47).toNat, by omega⟩
    obtain ⟨h1, h2⟩ := Lib.indexByte_some ho
    have lt : o < r.size := by
      rw [get_list] at h1
      split at h1
      · assumption
      · cases h1
    have at_ : r[o] = 47 := by
      rw [get_list, dif_pos lt] at h1
      exact Option.some.inj h1
    have e : endOf noSl r 0 = o := endOf_eq (Nat.zero_le _) (by omega) (fun j g _ hj => noSl_of g (fun c => h2 j hj (by rw [get_list, dif_pos g, c]))) (fun _ => by simp only [at_]; rfl)
    exact ⟨fun _ => by rw [ho, e], fun c => absurd lt (by omega)⟩
theorem sl_lt {s : ByteArray} {a : Nat} (h : endOf noSl s a < s.size) : a ≤ endOf noSl s a := by
  by_cases ha : a < s.size
  · exact (endOf_le (K := noSl) (by omega)).1
  · rw [endOf_end ha] at h
    omega
def slsFrom (s : ByteArray) (a : Nat) : List ByteArray :=
  if h : endOf noSl s a < s.size then s.extract a (endOf noSl s a) :: slsFrom s (endOf noSl s a + 1) else [s.extract a s.size]
termination_by s.size - a
decreasing_by have := sl_lt h; omega
theorem sls_cut {s : ByteArray} {a : Nat} (h : endOf noSl s a < s.size) : slsFrom s a = s.extract a (endOf noSl s a) :: slsFrom s (endOf noSl s a + 1) := by rw [slsFrom, dif_pos h]
theorem sls_end {s : ByteArray} {a : Nat} (h : ¬ endOf noSl s a < s.size) : slsFrom s a = [s.extract a s.size] := by rw [slsFrom, dif_neg h]
theorem allB_iff {p : Nat → Bool} {s : ByteArray} : ∀ {k : Nat}, allB p s k = true ↔ ∀ (j : Nat) (h : j < s.size), j < k → p s[j].toNat = true := by
  intro k
  induction k with
  | zero => exact ⟨fun _ j _ hj => absurd hj (by omega), fun _ => rfl⟩
  | succ k ih =>
    by_cases hk : k < s.size
    · rw [allB_succ hk, Bool.and_eq_true, ih]
      constructor
      · rintro ⟨h1, h2⟩ j hj hjk
        by_cases e : j = k
        · subst e; exact h2
        · exact h1 j hj (by omega)
      · intro h
        exact ⟨fun j hj hjk => h j hj (by omega), h k hk (by omega)⟩
    · have e : allB p s (k + 1) = allB p s k := by
        show (allB p s k && (if h : k < s.size then _ else true)) = _
        rw [dif_neg hk, Bool.and_true]
      rw [e, ih]
      exact ⟨fun h j hj _ => h j hj (by omega), fun h j hj _ => h j hj (by omega)⟩
theorem plc_run {s : ByteArray} {a e : Nat} (he : e ≤ s.size) (hn : ∀ (j : Nat) (h : j < s.size), a ≤ j → j < e → ¬ s[j].toNat = 47) : ∀ (d k : Nat), e - k ≤ d → a ≤ k → k ≤ e →
    (allB (kindB [95, 43, 45]) (s.extract a e) (k - a) = true) → (allB (kindB [95, 43, 45]) (s.extract a e) (e - a) = true → plcGo s k (k - a) = plcGo s e (e - a)) ∧ (allB (kindB [95, 43, 45]) (s.extract a e) (e - a) = false → plcGo s k (k - a) = none) := by
  intro d
  induction d with
  | zero =>
    intro k hd ha hk hb
    obtain rfl : k = e := by omega
    exact ⟨fun _ => rfl, fun c => by rw [hb] at c; cases c⟩
  | succ d ih =>
    intro k hd ha hk hb
    by_cases hke : k < e
    · have hks : k < s.size := by omega
      have sz : (s.extract a e).size = e - a := by simp; omega
      have gt : (s.extract a e)[k - a]'(by omega) = s[k] := by rw [ByteArray.getElem_extract]; simp only [show a + (k - a) = k by omega]
      have stp : allB (kindB [95, 43, 45]) (s.extract a e) (k + 1 - a) = (allB (kindB [95, 43, 45]) (s.extract a e) (k - a) && kindB [95, 43, 45] s[k].toNat) := by
        rw [show k + 1 - a = k - a + 1 by omega, allB_succ (by omega), gt]
      cases kb : kindB [95, 43, 45] s[k].toNat with
      | true =>
        rw [plc_on hks (hn k hks ha hke) kb, show k - a + 1 = k + 1 - a by omega]
        exact ih (k + 1) (by omega) (by omega) (by omega) (by rw [stp, hb, kb]; rfl)
      | false =>
        rw [kb, Bool.and_false] at stp
        have off := allB_off (e - a - (k + 1 - a)) stp
        rw [show k + 1 - a + (e - a - (k + 1 - a)) = e - a by omega] at off
        refine ⟨fun c => ?_, fun _ => plc_no hks (hn k hks ha hke) kb⟩
        rw [off] at c
        cases c
    · obtain rfl : k = e := by omega
      exact ⟨fun _ => rfl, fun c => by rw [hb] at c; cases c⟩
def plcOk (s : ByteArray) (a : Nat) : Bool := match plcGo s a 0 with | none => false | some p => decide (0 < p)
theorem made_part {s : ByteArray} {a e : Nat} (h40 : s.size ≤ 40) (ha : a ≤ e) (he : e ≤ s.size) : madeB (s.extract a e) 40 [95, 43, 45] = (decide (0 < e - a) && allB (kindB [95, 43, 45]) (s.extract a e) (e - a)) := by
  have sz : (s.extract a e).size = e - a := by simp; omega
  unfold madeB
  rw [sz, decide_eq_true (p := ((e - a : Nat) : Int) ≤ 40) (by omega), Bool.and_true]
theorem plc_parts {s : ByteArray} (h40 : s.size ≤ 40) : ∀ (d a : Nat), s.size - a ≤ d → a ≤ s.size → plcOk s a = (slsFrom s a).all fun t => madeB t 40 [95, 43, 45] := by
  intro d
  induction d with
  | zero =>
    intro a hd ha
    obtain rfl : a = s.size := by omega
    have h : ¬ s.size < s.size := by omega
    rw [sls_end (by rw [endOf_end h]; omega), List.all_cons, List.all_nil, made_part h40 (Nat.le_refl _) (Nat.le_refl _)]
    unfold plcOk
    rw [plc_end h]
    simp
  | succ d ih =>
    intro a hd ha
    have ⟨e1, e2⟩ := endOf_le (K := noSl) ha
    have hn : ∀ (j : Nat) (h : j < s.size), a ≤ j → j < endOf noSl s a → ¬ s[j].toNat = 47 := fun j h h1 h2 c => by
      have := endOf_all (K := noSl) s.size a (by omega) j h h1 h2
      unfold noSl at this
      rw [bne_iff_ne] at this
      omega
    obtain ⟨r1, r2⟩ := plc_run e2 hn (s.size) a (by omega) (Nat.le_refl _) e1 (by rw [Nat.sub_self]; rfl)
    rw [Nat.sub_self] at r1 r2
    by_cases h : endOf noSl s a < s.size
    · have h47 := noSl_at h (endOf_at (K := noSl) s.size a (by omega) h)
      rw [sls_cut h, List.all_cons, made_part h40 e1 e2]
      cases ab : allB (kindB [95, 43, 45]) (s.extract a (endOf noSl s a)) (endOf noSl s a - a) with
      | false =>
        unfold plcOk
        rw [r2 ab, Bool.and_false, Bool.false_and]
      | true =>
        rw [Bool.and_true, ← ih (endOf noSl s a + 1) (by omega) (by omega)]
        unfold plcOk
        rw [r1 ab]
        by_cases z : endOf noSl s a - a = 0
        · rw [plc_cut0 h h47 z, decide_eq_false (by omega), Bool.false_and]
        · rw [plc_cut h h47 z, decide_eq_true (by omega), Bool.true_and]
    · have ee : endOf noSl s a = s.size := by omega
      rw [sls_end h, List.all_cons, List.all_nil, Bool.and_true, made_part h40 ha (Nat.le_refl _)]
      rw [ee] at r1 r2
      cases ab : allB (kindB [95, 43, 45]) (s.extract a s.size) (s.size - a) with
      | false =>
        unfold plcOk
        rw [r2 ab, Bool.and_false]
      | true =>
        unfold plcOk
        rw [r1 ab, plc_end (Nat.lt_irrefl _), Bool.and_true]
theorem place_parts (s : ByteArray) : placeB s = (decide ((s.size : Int) ≤ 40) && (slsFrom s 0).all fun t => madeB t 40 [95, 43, 45]) := by
  by_cases h : s.size ≤ 40
  · rw [← plc_parts h s.size 0 (by omega) (Nat.zero_le _), decide_eq_true (p := (s.size : Int) ≤ 40) (by omega), Bool.true_and]
    unfold plcOk placeB
    cases plcGo s 0 0 with
    | none => rfl
    | some p => show (_ && decide (s.size ≤ 40)) = _; rw [decide_eq_true h, Bool.and_true]
  · rw [decide_eq_false (p := (s.size : Int) ≤ 40) (by omega), Bool.false_and]
    unfold placeB
    cases plcGo s 0 0 with
    | none => rfl
    | some p => show (_ && decide (s.size ≤ 40)) = _; rw [decide_eq_false h, Bool.and_false]
def K0 (c : Int) : Bool := kindB [43, 45] c.toNat
def plainK (s : ByteArray) (k : Nat) : Bool := decide (endOf K0 s k = s.size)
theorem plainK_iff {s : ByteArray} {k : Nat} (hk : k ≤ s.size) : plainK s k = true ↔ ∀ (j : Nat) (h : j < s.size), k ≤ j → kindB [43, 45] s[j].toNat = true := by
  unfold plainK
  rw [decide_eq_true_eq]
  constructor
  · intro e j h hj
    exact endOf_all (K := K0) s.size k (by omega) j h hj (by omega)
  · intro h
    exact endOf_eq hk (Nat.le_refl _) (fun j g hj _ => h j g hj) (fun g => absurd g (by omega))
theorem ne_kind {c : Nat} (h : kindB [43, 45] c = true) : ¬ c = 37 ∧ ¬ c = 47 := by
  constructor <;> (rintro rfl; exact absurd h (by decide))
theorem fmt_skip {s : ByteArray} : ∀ (d k e p q : Nat), e - k ≤ d → k ≤ e → e ≤ s.size → (∀ (j : Nat) (h : j < s.size), k ≤ j → j < e → kindB [43, 45] s[j].toNat = true) → fmtGo s k p q = fmtGo s e p q := by
  intro d
  induction d with
  | zero => intro k e p q hd hk he h; rw [show k = e by omega]
  | succ d ih =>
    intro k e p q hd hk he h
    by_cases hke : k < e
    · have kb := h k (by omega) (Nat.le_refl _) hke
      rw [fmt_on (by omega) (ne_kind kb).1 (ne_kind kb).2 kb]
      exact ih (k + 1) e p q (by omega) (by omega) he fun j g h1 h2 => h j g (by omega) h2
    · rw [show k = e by omega]
theorem fmt_grow {s : ByteArray} : ∀ (d k p q : Nat), s.size - k ≤ d → fmtGo s k p q = none ∨ ∃ a b, fmtGo s k p q = some (p + a, q + b) ∧ (a + b = 0 → ∀ (j : Nat) (h : j < s.size), k ≤ j → kindB [43, 45] s[j].toNat = true) := by
  intro d
  induction d with
  | zero => intro k p q hd; exact .inr ⟨0, 0, fmt_end (by omega), fun _ j h hj => by omega⟩
  | succ d ih =>
    intro k p q hd
    by_cases h : k < s.size
    · by_cases e : s[k].toNat = 37
      · by_cases h' : k + 1 < s.size
        · by_cases z : s[k + 1].toNat = 115 ∨ s[k + 1].toNat = 122
          · rw [fmt_pc h e h' z]
            rcases ih (k + 1) (p + 1) q (by omega) with r | ⟨a, b, r, _⟩
            · exact .inl r
            · exact .inr ⟨a + 1, b, by rw [r]; congr 2; omega, fun c => by omega⟩
          · exact .inl (fmt_pc1 h e h' z)
        · exact .inl (fmt_pc0 h e h')
      · by_cases e2 : s[k].toNat = 47
        · by_cases z : k = 0 ∨ k + 1 = s.size
          · exact .inl (fmt_sl0 h e e2 z)
          · rw [fmt_sl h e e2 z]
            rcases ih (k + 1) p (q + 1) (by omega) with r | ⟨a, b, r, _⟩
            · exact .inl r
            · exact .inr ⟨a, b + 1, by rw [r]; congr 2; omega, fun c => by omega⟩
        · cases kb : kindB [43, 45] s[k].toNat with
          | true =>
            rw [fmt_on h e e2 kb]
            rcases ih (k + 1) p q (by omega) with r | ⟨a, b, r, al⟩
            · exact .inl r
            · refine .inr ⟨a, b, r, fun c j g hj => ?_⟩
              by_cases ej : j = k
              · subst ej; exact kb
              · exact al c j g (by omega)
          | false => exact .inl (fmt_no h e e2 kb)
    · exact .inr ⟨0, 0, fmt_end h, fun _ j g hj => by omega⟩
def szB (s : ByteArray) : Bool := decide (1 ≤ s.size) && decide (s.size ≤ 20)
def fmtFin (s : ByteArray) : Option (Nat × Nat) → Bool
  | none => false
  | some (p, q) => szB s && decide (p + q ≤ 1)
theorem fmt_of {s : ByteArray} {r : Option (Nat × Nat)} (h : fmtGo s 0 0 0 = r) : formatB s = fmtFin s r := by
  unfold formatB
  rw [h]
  cases r <;> rfl
theorem fmt_rest {s : ByteArray} {k p q : Nat} (hk : k ≤ s.size) (h1 : p + q = 1) : fmtFin s (fmtGo s k p q) = (szB s && plainK s k) := by
  rcases fmt_grow (s := s) s.size k p q (by omega) with r | ⟨a, b, r, al⟩
  · have np : plainK s k = false := by
      rw [← Bool.not_eq_true]
      intro c
      have := fmt_skip (s := s) s.size k s.size p q (by omega) hk (Nat.le_refl _) (fun j h hj _ => (plainK_iff hk).1 c j h hj)
      rw [r, fmt_end (Nat.lt_irrefl _)] at this
      cases this
    rw [r, np, Bool.and_false]
    rfl
  · rw [r]
    by_cases z : a + b = 0
    · rw [(plainK_iff hk).2 (al z)]
      show (szB s && decide (p + a + (q + b) ≤ 1)) = _
      rw [decide_eq_true (by omega)]
    · have np : plainK s k = false := by
        rw [← Bool.not_eq_true]
        intro c
        have := fmt_skip (s := s) s.size k s.size p q (by omega) hk (Nat.le_refl _) (fun j h hj _ => (plainK_iff hk).1 c j h hj)
        rw [r, fmt_end (Nat.lt_irrefl _), Option.some.injEq, Prod.mk.injEq] at this
        omega
      rw [np]
      show (szB s && decide (p + a + (q + b) ≤ 1)) = _
      rw [decide_eq_false (by omega)]
theorem fmt_first (s : ByteArray) : (plainK s 0 = true → formatB s = szB s) ∧ ∀ (i : Nat) (h : i < s.size), (∀ (j : Nat) (g : j < s.size), j < i → kindB [43, 45] s[j].toNat = true) →
    (s[i].toNat = 37 → formatB s = (szB s && ((if h' : i + 1 < s.size then decide (s[i + 1].toNat = 115 ∨ s[i + 1].toNat = 122) else false) && plainK s (i + 1)))) ∧
    (s[i].toNat = 47 → formatB s = (szB s && (decide (¬ i = 0 ∧ ¬ i + 1 = s.size) && plainK s (i + 1)))) ∧
    (¬ s[i].toNat = 37 → ¬ s[i].toNat = 47 → kindB [43, 45] s[i].toNat = false → formatB s = false) := by
  refine ⟨fun c => ?_, fun i h hj => ?_⟩
  · have := fmt_skip (s := s) s.size 0 s.size 0 0 (by omega) (Nat.zero_le _) (Nat.le_refl _) (fun j h hj _ => (plainK_iff (Nat.zero_le _)).1 c j h hj)
    rw [fmt_of this, fmt_end (Nat.lt_irrefl _)]
    show (szB s && true) = _
    rw [Bool.and_true]
  · have sk := fmt_skip (s := s) s.size 0 i 0 0 (by omega) (Nat.zero_le _) (by omega) (fun j g _ h2 => hj j g h2)
    refine ⟨fun e => ?_, fun e => ?_, fun e1 e2 kb => ?_⟩
    · rw [fmt_of sk]
      by_cases h' : i + 1 < s.size
      · rw [dif_pos h']
        by_cases z : s[i + 1].toNat = 115 ∨ s[i + 1].toNat = 122
        · rw [fmt_pc h e h' z, decide_eq_true z, Bool.true_and]
          exact fmt_rest (by omega) rfl
        · rw [fmt_pc1 h e h' z, decide_eq_false z, Bool.false_and, Bool.and_false]
          rfl
      · rw [fmt_pc0 h e h', dif_neg h', Bool.false_and, Bool.and_false]
        rfl
    · rw [fmt_of sk]
      by_cases z : i = 0 ∨ i + 1 = s.size
      · rw [fmt_sl0 h (by omega) e z, decide_eq_false (by omega), Bool.false_and, Bool.and_false]
        rfl
      · rw [fmt_sl h (by omega) e z, decide_eq_true (by omega), Bool.true_and]
        exact fmt_rest (by omega) rfl
    · rw [fmt_of sk, fmt_no h e1 e2 kb]
      rfl
def at_ (s : ByteArray) (c : UInt8) : Int := Lib.indexByte s.data.toList c
theorem at_none {s : ByteArray} {c : UInt8} (h : at_ s c < 0) : ∀ (j : Nat) (g : j < s.size), ¬ s[j] = c := fun j g e => by
  have ge := Lib.indexByte_ge s.data.toList c
  have := Lib.indexByte_none (l := s.data.toList) (c := c) (by unfold at_ at h; omega) j
  exact this (by rw [get_list, dif_pos g, e])
theorem at_some {s : ByteArray} {c : UInt8} {o : Nat} (h : at_ s c = o) : ∃ g : o < s.size, s[o] = c ∧ ∀ (j : Nat) (g : j < s.size), j < o → ¬ s[j] = c := by
  obtain ⟨h1, h2⟩ := Lib.indexByte_some h
  rw [get_list] at h1
  split at h1
  · rename_i g
    exact ⟨g, Option.some.inj h1, fun j g' hj e => h2 j hj (by rw [get_list, dif_pos g', e])⟩
  · cases h1
def headB (s : ByteArray) (c : Nat) : Bool := if h : 0 < s.size then decide (s[0].toNat = c) else false
def behindT (s : ByteArray) (i : Int) : ByteArray := s.extract (i.toNat + 1) s.size
def fmtC (s : ByteArray) : Bool := madeB s 20 [43, 45, 37, 47] &&
  if 0 ≤ at_ s 37 then (decide (at_ s 47 < 0) && decide (at_ (behindT s (at_ s 37)) 37 < 0)) && (headB (behindT s (at_ s 37)) 115 || headB (behindT s (at_ s 37)) 122)
  else if 0 ≤ at_ s 47 then (decide (¬ at_ s 47 = 0) && decide (¬ (behindT s (at_ s 47)).size = 0)) && decide (at_ (behindT s (at_ s 47)) 47 < 0)
  else true
theorem kind4 (c : Nat) : kindB [43, 45, 37, 47] c = (kindB [43, 45] c || c == 37 || c == 47) := by
  unfold kindB
  simp only [List.contains_cons, List.contains_nil, Bool.or_false, Bool.or_assoc]
theorem kind_out {c : Nat} (h : kindB [43, 45, 37, 47] c = true) (h1 : ¬ c = 37) (h2 : ¬ c = 47) : kindB [43, 45] c = true := by
  rw [kind4, beq_eq_false_iff_ne.2 h1, beq_eq_false_iff_ne.2 h2, Bool.or_false, Bool.or_false] at h
  exact h
theorem kind_in {c : Nat} (h : kindB [43, 45] c = true) : kindB [43, 45, 37, 47] c = true := by rw [kind4, h]; rfl
theorem u8_ne {c : UInt8} {n : Nat} (hn : n < 256) (h : ¬ c = UInt8.ofNat n) : ¬ c.toNat = n := fun e => h (UInt8.toNat_inj.1 (by rw [e, UInt8.toNat_ofNat_of_lt' hn]))
theorem behind_get {s : ByteArray} {i : Nat} (_hi : i < s.size) : (behindT s (i : Int)).size = s.size - (i + 1) ∧ ∀ (j : Nat) (g : j < (behindT s (i : Int)).size) (g' : i + 1 + j < s.size), (behindT s (i : Int))[j] = s[i + 1 + j] := by
  unfold behindT
  refine ⟨by simp, fun j g g' => ?_⟩
  rw [ByteArray.getElem_extract]
  rfl
theorem head_get {s : ByteArray} {i c : Nat} (hi : i < s.size) : headB (behindT s (i : Int)) c = if h : i + 1 < s.size then decide (s[i + 1].toNat = c) else false := by
  obtain ⟨b1, b2⟩ := behind_get hi
  unfold headB
  by_cases h : i + 1 < s.size
  · rw [dif_pos h, dif_pos (by omega), b2 0 (by omega) (by omega)]
  · rw [dif_neg h, dif_neg (by omega)]
theorem made4 {s : ByteArray} : madeB s 20 [43, 45, 37, 47] = (szB s && allB (kindB [43, 45, 37, 47]) s s.size) := by
  unfold madeB szB
  congr 2
  rw [Bool.eq_iff_iff]
  simp only [decide_eq_true_eq]
  omega
theorem fmt_code (s : ByteArray) : formatB s = fmtC s := by
  obtain ⟨f0, f1⟩ := fmt_first s
  unfold fmtC
  rw [made4, Bool.and_assoc]
  by_cases hp : plainK s 0 = true
  · have al := (plainK_iff (Nat.zero_le _)).1 hp
    rw [f0 hp]
    have n1 : at_ s 37 < 0 := by
      apply Classical.byContradiction
      intro c
      obtain ⟨g, e, _⟩ := at_some (s := s) (c := 37) (o := (at_ s 37).toNat) (by omega)
      exact (ne_kind (al _ g (Nat.zero_le _))).1 (by rw [e]; rfl)
    have n2 : at_ s 47 < 0 := by
      apply Classical.byContradiction
      intro c
      obtain ⟨g, e, _⟩ := at_some (s := s) (c := 47) (o := (at_ s 47).toNat) (by omega)
      exact (ne_kind (al _ g (Nat.zero_le _))).2 (by rw [e]; rfl)
    rw [if_neg (by omega), if_neg (by omega), allB_iff.2 (fun j h _ => kind_in (al j h (Nat.zero_le _)))]
    simp
  · -- the first special byte
    obtain ⟨i, hi, hj, hk⟩ : ∃ (i : Nat) (h : i < s.size), (∀ (j : Nat) (g : j < s.size), j < i → kindB [43, 45] s[j].toNat = true) ∧ kindB [43, 45] s[i].toNat = false := by
      have lt : endOf K0 s 0 < s.size := by
        have := endOf_le (K := K0) (s := s) (k := 0) (Nat.zero_le _)
        unfold plainK at hp
        rw [decide_eq_true_eq] at hp
        omega
      exact ⟨endOf K0 s 0, lt, fun j g h => endOf_all (K := K0) s.size 0 (by omega) j g (Nat.zero_le _) h, endOf_at (K := K0) s.size 0 (by omega) lt⟩
    obtain ⟨g1, g2, g3⟩ := f1 i hi hj
    obtain ⟨z1, z2⟩ := behind_get hi
    by_cases h37 : s[i].toNat = 37
    · rw [g1 h37]
      have a37 : at_ s 37 = (i : Int) := by
        by_cases c : at_ s 37 < 0
        · exact absurd (UInt8.toNat_inj.1 (by rw [h37]; rfl)) (at_none c i hi)
        · obtain ⟨g, e, ah⟩ := at_some (s := s) (c := 37) (o := (at_ s 37).toNat) (by omega)
          have le : ¬ i < (at_ s 37).toNat := fun h => ah i hi h (UInt8.toNat_inj.1 (by rw [h37]; rfl))
          have ge : ¬ (at_ s 37).toNat < i := fun h => (ne_kind (hj _ g h)).1 (by rw [e]; rfl)
          omega
      rw [a37, if_pos (by omega), head_get hi, head_get hi]
      congr 1
      by_cases hz : i + 1 < s.size
      · rw [dif_pos hz, dif_pos hz, dif_pos hz]
        by_cases z : s[i + 1].toNat = 115 ∨ s[i + 1].toNat = 122
        · have ez : (decide (s[i + 1].toNat = 115) || decide (s[i + 1].toNat = 122)) = true := by
            rcases z with z | z
            · rw [decide_eq_true z]; rfl
            · rw [decide_eq_true z, Bool.or_true]
          rw [ez, decide_eq_true z, Bool.true_and, Bool.and_true, Bool.eq_iff_iff, plainK_iff (by omega)]
          simp only [Bool.and_eq_true, decide_eq_true_eq]
          constructor
          · intro al
            refine ⟨allB_iff.2 fun j h _ => ?_, ?_, ?_⟩
            · by_cases e1 : j < i
              · exact kind_in (hj j h e1)
              · by_cases e2 : j = i
                · subst e2; rw [h37]; decide
                · exact kind_in (al j h (by omega))
            · apply Classical.byContradiction
              intro c
              obtain ⟨g, e, _⟩ := at_some (s := s) (c := 47) (o := (at_ s 47).toNat) (by omega)
              have e47 : s[(at_ s 47).toNat].toNat = 47 := by rw [e]; rfl
              by_cases e1 : (at_ s 47).toNat < i
              · exact (ne_kind (hj _ g e1)).2 e47
              · by_cases e2 : (at_ s 47).toNat = i
                · simp only [e2] at e47; omega
                · exact (ne_kind (al _ g (by omega))).2 e47
            · apply Classical.byContradiction
              intro c
              obtain ⟨g, e, _⟩ := at_some (s := behindT s i) (c := 37) (o := (at_ (behindT s i) 37).toNat) (by omega)
              rw [z2 _ g (by omega)] at e
              exact (ne_kind (al (i + 1 + (at_ (behindT s i) 37).toNat) (by omega) (by omega))).1 (by rw [e]; rfl)
          · rintro ⟨ab, n47, n37⟩ j h hj2
            refine kind_out (allB_iff.1 ab j h h) ?_ ?_
            · have := at_none n37 (j - (i + 1)) (by omega)
              rw [z2 _ (by omega) (by omega)] at this
              simp only [show i + 1 + (j - (i + 1)) = j by omega] at this
              exact u8_ne (by omega) this
            · exact u8_ne (by omega) (at_none n47 j h)
        · have ez : (decide (s[i + 1].toNat = 115) || decide (s[i + 1].toNat = 122)) = false := by
            rw [decide_eq_false (fun c => z (.inl c)), decide_eq_false (fun c => z (.inr c))]
            rfl
          rw [ez, decide_eq_false z, Bool.false_and, Bool.and_false, Bool.and_false]
      · rw [dif_neg hz, dif_neg hz, dif_neg hz, Bool.false_and, Bool.or_false, Bool.and_false, Bool.and_false]
    · by_cases h47 : s[i].toNat = 47
      · rw [g2 h47]
        have a47 : at_ s 47 = (i : Int) := by
          by_cases c : at_ s 47 < 0
          · exact absurd (UInt8.toNat_inj.1 (by rw [h47]; rfl)) (at_none c i hi)
          · obtain ⟨g, e, ah⟩ := at_some (s := s) (c := 47) (o := (at_ s 47).toNat) (by omega)
            have le : ¬ i < (at_ s 47).toNat := fun h => ah i hi h (UInt8.toNat_inj.1 (by rw [h47]; rfl))
            have ge : ¬ (at_ s 47).toNat < i := fun h => (ne_kind (hj _ g h)).2 (by rw [e]; rfl)
            omega
        congr 1
        by_cases c37 : 0 ≤ at_ s 37
        · rw [if_pos c37, a47, decide_eq_false (p := (i : Int) < 0) (by omega), Bool.false_and, Bool.false_and, Bool.and_false]
          obtain ⟨g, e, ah⟩ := at_some (s := s) (c := 37) (o := (at_ s 37).toNat) (by omega)
          have e37 : s[(at_ s 37).toNat].toNat = 37 := by rw [e]; rfl
          have np : plainK s (i + 1) = false := by
            rw [← Bool.not_eq_true, plainK_iff (by omega)]
            intro al
            by_cases e1 : (at_ s 37).toNat < i
            · exact (ne_kind (hj _ g e1)).1 e37
            · by_cases e2 : (at_ s 37).toNat = i
              · simp only [e2] at e37; omega
              · exact (ne_kind (al _ g (by omega))).1 e37
          rw [np, Bool.and_false]
        · rw [if_neg c37, a47, if_pos (by omega)]
          have k1 : decide (¬ (i : Int) = 0) = decide (¬ i = 0) := by rw [Bool.eq_iff_iff]; simp only [decide_eq_true_eq]; omega
          have k2 : decide (¬ (behindT s i).size = 0) = decide (¬ i + 1 = s.size) := by rw [Bool.eq_iff_iff]; simp only [decide_eq_true_eq]; omega
          rw [k1, k2, Bool.eq_iff_iff]
          simp only [Bool.and_eq_true, decide_eq_true_eq, plainK_iff (show i + 1 ≤ s.size by omega)]
          constructor
          · rintro ⟨⟨i0, i1⟩, al⟩
            refine ⟨allB_iff.2 fun j h _ => ?_, ⟨i0, i1⟩, ?_⟩
            · by_cases e1 : j < i
              · exact kind_in (hj j h e1)
              · by_cases e2 : j = i
                · subst e2; rw [h47]; decide
                · exact kind_in (al j h (by omega))
            · apply Classical.byContradiction
              intro c
              obtain ⟨g, e, _⟩ := at_some (s := behindT s i) (c := 47) (o := (at_ (behindT s i) 47).toNat) (by omega)
              rw [z2 _ g (by omega)] at e
              exact (ne_kind (al (i + 1 + (at_ (behindT s i) 47).toNat) (by omega) (by omega))).2 (by rw [e]; rfl)
          · rintro ⟨ab, ⟨i0, i1⟩, n47⟩
            refine ⟨⟨i0, i1⟩, fun j h hj2 => kind_out (allB_iff.1 ab j h h) ?_ ?_⟩
            · exact u8_ne (by omega) (at_none (s := s) (c := 37) (by omega) j h)
            · have := at_none n47 (j - (i + 1)) (by omega)
              rw [z2 _ (by omega) (by omega)] at this
              simp only [show i + 1 + (j - (i + 1)) = j by omega] at this
              exact u8_ne (by omega) this
      · rw [g3 h37 h47 hk]
        have na : allB (kindB [43, 45, 37, 47]) s s.size = false := by
          refine allB_no hi ?_
          rw [kind4, hk, beq_eq_false_iff_ne.2 h37, beq_eq_false_iff_ne.2 h47]
          rfl
        rw [na, Bool.false_and, Bool.and_false]
def AbidesBox {α : Type} (B : Nat) (J : List α → World → Prop) : Prop := ∀ s W W' row, J s W → W.grownBy W' row → (∀ r, row = some r → r = B) → J s W'
def OwnBox {α : Type} (lo B : Nat) (I : List α → World → Prop) : Prop := ∀ s W W' row, I s W → W.grownBy W' row → (∀ r, row = some r → r = B ∨ lo ≤ r) → I s W'
theorem OwnBox.put {α : Type} {lo B : Nat} {I : List α → World → Prop} (h : OwnBox lo B I) {s : List α} {W : World} (hs : I s W) {r : Nat} (hr : lo ≤ r) (o : Obj) : I s (W.putObj r o) :=
  h s W _ (some r) hs (grownBy_putObj' W r o) fun q e => by cases e; exact .inr hr
theorem OwnBox.more {α : Type} {lo B : Nat} {I : List α → World → Prop} (h : OwnBox lo B I) {s : List α} {W : World} (hs : I s W) (o : Obj) : I s (W.alloc o) :=
  h s W _ none hs (World.grownBy_alloc W o none) fun q e => by cases e
theorem rangeFunc_box {F : Fence} {n : Nat} {P : Program} {w : World} {α : Type} {g : Operand} {ps : Array Tmp} {assign body : Code} {Q : Exit → Act → World → Prop} {a : Act}
    (out : F.round = none) (h1 : 1 ≤ n) {gf : Nat} {lb : Array Value} (hg : a.eval g = .func (.func gf) #[] lb) (hF : F.fn gf) (eg : ∀ args W, (callFunc gf args).run P W = .ok (.enter gf args) W)
    {encs : α → Array Value} {S Sp : List α → Prop} {N B : Nat} (hB : B < w.heap.size)
    (iter : ∀ (l : Nat) (J Jx : List α → World → Prop) (W : World), Below w.heap.size w W → AbidesBox B J → AbidesBox B Jx →
      (∀ pre x W1, J pre W1 → pre.length < N → YieldAt F (n - 1 - 1) P l (encs x) W1 fun e W' => (e = .returned (.bool true) ∧ J (pre ++ [x]) W' ∧ Below w.heap.size W1 W') ∨ (e = .returned (.bool false) ∧ Jx (pre ++ [x]) W')) →
      J [] W → CallsIn F (n - 1) P gf (#[.func (.yield l) #[] #[]] ++ lb) W fun e W' => (∃ v, e = .returned v) ∧ ((∃ xs, S xs ∧ J xs W') ∨ ∃ pre, Sp pre ∧ Jx pre W'))
    (hps : ∀ x, (encs x).size = ps.size) (I : List α → World → Prop) (Ix : Code → List α → World → Prop) (hI : OwnBox w.heap.size B I) (hIx : ∀ c, OwnBox w.heap.size B (Ix c)) (h0 : I [] w) (a₁ : α → Act)
    (asg : ∀ (l : Nat) (x : α) (W : World) (K : Act → World → Prop), K (a₁ x) W → assign.wpIn (F.inRound l) (n - 1 - 1) P (Exit.then K (fun _ _ _ => False)) { tmps := (ps.zip (encs x)).foldl (fun t (p, v) => t.setIfInBounds p v) a.tmps, defers := [] } W)
    (bod : ∀ (l : Nat) (pre : List α) (x : α) (W : World), I pre W → pre.length < N → body.wpIn (F.inRound l) (n - 1 - 1) P (ownPostG w.heap.size (Below w.heap.size) I Ix (pre ++ [x]) W) (a₁ x) W)
    (fin : ∀ (D : Nat) (xs : List α) (W : World), w.heap.size ≤ D → S xs → I xs W → W.heap[D]? = some (.deferred (some [])) → Q .normal { a with defers := { target := .collected D, args := #[] } :: a.defers } W)
    (off : ∀ (D : Nat) (c : Code) (pre : List α) (W : World), w.heap.size ≤ D → Sp pre → Ix c pre W → W.heap[D]? = some (.deferred (some [])) → c.wpIn F n P Q { a with defers := { target := .collected D, args := #[] } :: a.defers } W) :
    (Code.rangeFunc g ps assign body).wpIn F n P Q a w := by
  refine wpIn_rangeFunc fun fn hfn => ?_
  rw [out]
  obtain ⟨R, eR⟩ : ∃ R : LoopState → Option Code → Loop, R = fun st pe => { state := st, pending := pe, fn, tmps := a.tmps, params := ps, assign, body, defers := w.heap.size } := ⟨_, rfl⟩
  have sz1 : (w.alloc (.deferred (some []))).heap.size = w.heap.size + 1 := World.size_alloc _ _
  obtain ⟨V, eV⟩ : ∃ V, (w.alloc (.deferred (some []))).alloc (.loop (R .ready none)) = V := ⟨_, rfl⟩
  have vL : V.heap[w.heap.size + 1]? = some (.loop (R .ready none)) := by
    have := World.alloc_heap_new (w.alloc (.deferred (some []))) (.loop (R .ready none))
    rwa [sz1, eV] at this
  have vD : V.heap[w.heap.size]? = some (.deferred (some [])) := by
    rw [← eV]
    exact (Below.heap_alloc _ _ _ (by rw [sz1]; omega)).trans (World.alloc_heap_new w _)
  have vI : I [] V := by rw [← eV]; exact hI.more (hI.more h0 _) _
  have vB : Below w.heap.size w V := by rw [← eV]; exact ((Below.refl _ w).alloc (Nat.le_refl _) _).alloc (by rw [sz1]; omega) _
  refine ⟨w.heap.size + 1, [{ target := .collected w.heap.size, args := #[] }], V, { target := .fn (.func gf) lb, args := #[.func (.yield (w.heap.size + 1)) #[] #[]] }, V, gf,
    #[.func (.yield (w.heap.size + 1)) #[] #[]] ++ lb, V, ?_, ?_, ?_, ?_, fun _ => h1, ?_⟩
  · rw [← eV, eR]; exact run_enterLoop_outer _ _ _ _ _
  · simp only [resolve, hg]
    simp [go_sem]
  · intro f' hf'
    simp [Target.leads] at hf'
    subst hf'
    exact hF
  · simp [invoke, go_sem, eg]
  have own : ∀ {X Y : World} {row : Option Nat} {k : Nat} {o : Obj}, X.grownBy Y row → (∀ r, row = some r → r = B) → w.heap.size ≤ k → X.heap[k]? = some o → Y.heap[k]? = some o := fun gr hr hk e =>
    (gr.block _ (Array.getElem?_eq_some_iff.1 e).1 fun c => by have := hr _ c.symm; omega).trans e
  refine (iter (w.heap.size + 1)
    (fun pre W => I pre W ∧ W.heap[w.heap.size + 1]? = some (.loop (R .ready none)) ∧ W.heap[w.heap.size]? = some (.deferred (some [])))
    (fun pre W => ∃ c, Ix c pre W ∧ W.heap[w.heap.size + 1]? = some (.loop (R .done (some c))) ∧ W.heap[w.heap.size]? = some (.deferred (some [])))
    V vB
    (fun s X Y row hs gr hr => ⟨hI s X Y row hs.1 gr fun r e => .inl (hr r e), own gr hr (by omega) hs.2.1, own gr hr (Nat.le_refl _) hs.2.2⟩)
    (fun s X Y row ⟨c, hc, hl, hk⟩ gr hr => ⟨c, hIx c s X Y row hc gr fun r e => .inl (hr r e), own gr hr (by omega) hl, own gr hr (Nat.le_refl _) hk⟩)
    ?_ ⟨vI, vL, vD⟩).mono ?_
  · rintro pre x W ⟨hi, hl, hk⟩ len
    have lt := (Array.getElem?_eq_some_iff.1 hl).1
    have hy := run_yield (P := P) (args := encs x) hl (by rw [eR]; exact hps x)
    rw [eR] at hy
    refine ⟨fn, _, assign, body, hy, roundIn_of_wpIn hfn (asg _ x W _ ?_)⟩
    clear hy
    refine ⟨_, run_beginRound hl (by rw [eR]), ?_⟩
    have hl2 : (W.putObj (w.heap.size + 1) (.loop { R .ready none with state := .busy })).heap[w.heap.size + 1]? = some (.loop { R .ready none with state := .busy }) := World.putObj_heap_same lt
    have hk2 : (W.putObj (w.heap.size + 1) (.loop { R .ready none with state := .busy })).heap[w.heap.size]? = some (.deferred (some [])) := (World.putObj_heap_other (by omega)).trans hk
    refine wpIn_mono (bod _ pre x _ (hI.put hi (by omega) _) len) ?_
    have back : ∀ (jump : Option Code) (W3 : World), KeepsFrom w.heap.size (W.putObj (w.heap.size + 1) (.loop { R .ready none with state := .busy })) W3 →
        (Instr.endRound (w.heap.size + 1) jump).run P W3 = .ok (.bool jump.isNone) (W3.putObj (w.heap.size + 1) (.loop (R (if jump.isNone then .ready else .done) jump))) ∧
        (W3.putObj (w.heap.size + 1) (.loop (R (if jump.isNone then .ready else .done) jump))).heap[w.heap.size + 1]? = some (.loop (R (if jump.isNone then .ready else .done) jump)) ∧
        (W3.putObj (w.heap.size + 1) (.loop (R (if jump.isNone then .ready else .done) jump))).heap[w.heap.size]? = some (.deferred (some [])) := fun jump W3 hk3 => by
      have hl3 := hk3.same _ _ (by omega) hl2 rfl
      have r := run_endRound (P := P) jump hl3
      rw [eR] at r ⊢
      exact ⟨r, World.putObj_heap_same (Array.getElem?_eq_some_iff.1 hl3).1, (World.putObj_heap_other (by omega)).trans (hk3.same _ _ (Nat.le_refl _) hk2 rfl)⟩
    have pb : ∀ (X : World) (o : Obj), Below w.heap.size X (X.putObj (w.heap.size + 1) o) := fun X o => ⟨rfl, rfl, rfl, by simp, fun k hk' => World.putObj_heap_other (by omega)⟩
    rintro e a3 W3 hp
    cases e with
    | normal =>
      obtain ⟨k3, b3, i3⟩ := hp
      obtain ⟨r, l4, d4⟩ := back none W3 k3
      exact ⟨_, _, r, .inl ⟨rfl, ⟨hI.put i3 (by omega) _, l4, d4⟩, ((pb _ _).trans b3).trans (pb _ _)⟩⟩
    | ret =>
      obtain ⟨k3, i3⟩ := hp
      obtain ⟨r, l4, d4⟩ := back (some .ret) W3 k3
      exact ⟨_, _, r, .inr ⟨rfl, .ret, (hIx _).put i3 (by omega) _, l4, d4⟩⟩
    | exit id =>
      obtain ⟨k3, i3⟩ := hp
      obtain ⟨r, l4, d4⟩ := back (some (.exit id)) W3 k3
      exact ⟨_, _, r, .inr ⟨rfl, .exit id, (hIx _).put i3 (by omega) _, l4, d4⟩⟩
    | goto t =>
      obtain ⟨k3, i3⟩ := hp
      obtain ⟨r, l4, d4⟩ := back (some (.goto t)) W3 k3
      exact ⟨_, _, r, .inr ⟨rfl, .goto t, (hIx _).put i3 (by omega) _, l4, d4⟩⟩
    | panic ch => exact hp.elim
    | outgrown => exact hp.elim
  · rintro e W2 ⟨⟨v, rfl⟩, (⟨xs, hS, hi, hl, hk⟩ | ⟨pre, hSp, c, hi, hl, hk⟩)⟩
    · exact ⟨none, _, by have := run_endLoop (P := P) hl (by rw [eR]; simp); rw [eR] at this; exact this, fin _ xs _ (Nat.le_refl _) hS (hI.put hi (by omega) _) ((World.putObj_heap_other (by omega)).trans hk)⟩
    · exact ⟨some c, _, by have := run_endLoop (P := P) hl (by rw [eR]; simp); rw [eR] at this; exact this, off _ c pre _ (Nat.le_refl _) hSp ((hIx c).put hi (by omega) _) ((World.putObj_heap_other (by omega)).trans hk)⟩
end Go.Proofs.YtnkmlfbnfndfpaaGreatDoor
namespace Go.Proofs.YtnkmlfbnfndfpaaGreatDoor
open Go.RowKit Go.Shelf
attribute [local go_sem] Oper.semAt_some
theorem seq_made (n : Nat) (s t : ByteArray) (w : World) :
    CallsIn Fence.wide n Tryz.prog 72 #[.string s, .string t, .int .i64 0] w fun e w' => e = .returned (.func (.func 100) #[] #[.pointer (some ⟨w.heap.size + 1, 0, none⟩), .pointer (some ⟨w.heap.size, 0, none⟩), .pointer (some ⟨w.heap.size + 2, 0, none⟩)]) ∧
      w' = ((w.alloc (.cells #[.string s] 9)).alloc (.cells #[.string t] 9)).alloc (.cells #[.int .i64 0] 3) := by
  refine callsIn_of_wp Tryz.func72 rfl trivial ?_ rfl
  simp only [Tryz.ntmps72, List.size_toArray, List.length_cons, List.length_nil, Nat.reduceAdd, Nat.reduceSub, Array.replicate_succ, Array.replicate_zero, List.push_toArray, List.append_toArray, List.nil_append, List.cons_append]
  gi_wp2
  go_ret
  exact ⟨rfl, rfl⟩
theorem seqs_made (n : Nat) (hn : 1 ≤ n) (s t : ByteArray) (w : World) :
    CallsIn Fence.wide n Tryz.prog 39 #[.string s, .string t] w fun e w' => e = .returned (.func (.func 100) #[] #[.pointer (some ⟨w.heap.size + 1, 0, none⟩), .pointer (some ⟨w.heap.size, 0, none⟩), .pointer (some ⟨w.heap.size + 2, 0, none⟩)]) ∧
      w' = ((w.alloc (.cells #[.string s] 9)).alloc (.cells #[.string t] 9)).alloc (.cells #[.int .i64 0] 3) := by
  refine callsIn_of_wp Tryz.func39 rfl trivial ?_ rfl
  simp only [Tryz.ntmps39, List.size_toArray, List.length_cons, List.length_nil, Nat.reduceAdd, Nat.reduceSub, Array.replicate_succ, Array.replicate_zero, List.push_toArray, List.append_toArray, List.nil_append, List.cons_append]
  gi_wp2_with (refine ⟨trivial, ?_⟩; gi_at_call 72; refine (seq_made _ _ _ _).mono ?_; rintro e w' ⟨rfl, rfl⟩)
  gi_wp2
  go_ret
  exact ⟨rfl, rfl⟩
theorem rest_sl {s : ByteArray} {a : Nat} (ha : a ≤ s.size) : endOf noSl (s.extract a s.size) 0 = endOf noSl s a - a := by
  obtain ⟨e1, e2⟩ := endOf_le (K := noSl) ha
  have sz : (s.extract a s.size).size = s.size - a := by simp
  have gt : ∀ (j : Nat) (h : j < (s.extract a s.size).size), (s.extract a s.size)[j] = s[a + j]'(by rw [sz] at h; omega) := fun j h => ByteArray.getElem_extract h
  refine endOf_eq (Nat.zero_le _) (by omega) (fun j g _ hj => ?_) (fun g => ?_)
  · rw [gt]
    exact endOf_all s.size a (by omega) (a + j) (by rw [sz] at g; omega) (by omega) (by omega)
  · rw [gt]
    have := endOf_at (K := noSl) (s := s) s.size a (by omega) (by rw [sz] at g; omega)
    simp only [show a + (endOf noSl s a - a) = endOf noSl s a from by omega]
    exact this
theorem blk_lo {lo : Nat} {W W' : World} (h : Below lo W W') {x : Nat} (hx : x < lo) {vs : List Value} (hB : Blk W x vs) : Blk W' x vs :=
  ⟨Nat.lt_of_lt_of_le hB.lt h.size, hB.cs.mono fun i => ⟨h.cell (p := ⟨_, i, none⟩) hx, h.frozen (p := ⟨_, i, none⟩) hx⟩⟩
def strOf : Option Value → ByteArray
  | some (.string r) => r
  | _ => ⟨#[]⟩
theorem split_in (n : Nat) (hn : 1 ≤ n) (l b lo : Nat) (hlo : b + 2 < lo) (s : ByteArray) (hs : s.size ≤ 1000) (J Jx : List Line → World → Prop) (W : World) (hJ : AbidesBox b J) (_hJx : AbidesBox b Jx)
    (hY : ∀ pre x W1, J pre W1 → pre.length < s.size + 1 → YieldAt Fence.wide (n - 1) Tryz.prog l #[.string x.1] W1 fun e W' =>
      (e = .returned (.bool true) ∧ J (pre ++ [x]) W' ∧ Below lo W1 W') ∨ (e = .returned (.bool false) ∧ Jx (pre ++ [x]) W'))
    (hb : Blk W b [.string s]) (hb1 : Blk W (b + 1) [.string ⟨#[47]⟩]) (hb2 : Blk W (b + 2) [.int .i64 0]) (h0 : J [] W) :
    CallsIn Fence.wide n Tryz.prog 100 #[.func (.yield l) #[] #[], .pointer (some ⟨b + 1, 0, none⟩), .pointer (some ⟨b, 0, none⟩), .pointer (some ⟨b + 2, 0, none⟩)] W fun e W' => (∃ v, e = .returned v) ∧
      ((∃ ys, bytesOf ys = slsFrom s 0 ∧ J ys W') ∨ (∃ pre, (∃ r, bytesOf pre ++ r = slsFrom s 0) ∧ Jx pre W')) := by
  obtain ⟨_, c1, _⟩ := hb1.one
  refine callsIn_of_wp Tryz.func100 rfl trivial ?_ rfl
  simp only [Tryz.ntmps100, List.size_toArray, List.length_cons, List.length_nil, Nat.reduceAdd, Nat.reduceSub, Array.replicate_succ, Array.replicate_zero, List.push_toArray, List.append_toArray, List.nil_append, List.cons_append]
  gi_wp2
  gi_loopw [7, 8] (fun v7 v8 wr => ∃ (pre : List Line) (a : Nat), a ≤ s.size ∧ Blk wr b [.string (s.extract a s.size)] ∧ Blk wr (b + 1) [.string ⟨#[47]⟩] ∧ Blk wr (b + 2) [.int .i64 0] ∧ bytesOf pre ++ slsFrom s a = slsFrom s 0 ∧ pre.length ≤ a ∧ J pre wr) (fun _ _ wr => (strOf (wr.cell? ⟨b, 0, none⟩)).size)
  case atStart => exact ⟨[], 0, Nat.zero_le _, by simpa using hb, hb1, hb2, rfl, Nat.zero_le _, h0⟩
  case round =>
    obtain ⟨pre, a, ha, hb, hb1, hb2, hx, hp, hJs⟩ := hrel
    obtain ⟨_, c0, f0⟩ := hb.one
    obtain ⟨_, c1, _⟩ := hb1.one
    obtain ⟨_, c2, _⟩ := hb2.one
    obtain ⟨e1, e2⟩ := endOf_le (K := noSl) ha
    obtain ⟨i1, i2⟩ := idx_sl (s.extract a s.size)
    rw [rest_sl ha] at i1 i2
    have szr : (s.extract a s.size).size = s.size - a := by simp
    have IW := Lib.hid (fun w => callsIn_wide.2 (ystrings_Index_one (s.extract a s.size) 47 w) : ∀ w, CallsIn Fence.wide (n - 1) Tryz.prog 102 #[.string (s.extract a s.size), .string ⟨#[47]⟩] w fun e w' => e = .returned (.int .i64 (Lib.indexByte (s.extract a s.size).data.toList 47)) ∧ w' = w)
    have ho : strOf (wr.cell? ⟨b, 0, none⟩) = s.extract a s.size := by rw [c0]; rfl
    by_cases h : endOf noSl s a < s.size
    · rw [i1 (by omega)] at IW
      rw [sls_cut h] at hx
      have U : (s.extract a s.size).extract 0 (endOf noSl s a - a) = s.extract a (endOf noSl s a) := by
        rw [ByteArray.extract_extract]
        congr 1 <;> omega
      have V : (s.extract a s.size).extract (endOf noSl s a - a + 1) (s.size - a) = s.extract (endOf noSl s a + 1) s.size := by
        rw [ByteArray.extract_extract]
        congr 1 <;> omega
      have zu : (s.extract a (endOf noSl s a)).size ≤ 1000000 := by simp only [ByteArray.size_extract]; omega
      have HX := Lib.hid hx
      have HV := Lib.hid V
      clear hx i1 i2 V
      generalize endOf noSl s a = k at *
      have k1 : IntKind.i64.wrap (((k - a : Nat) : Int) + 0) = ((k - a : Nat) : Int) := IntWalk.i64_in _ (by omega)
      have k2 : IntKind.i64.wrap (((k - a : Nat) : Int) + 1) = ((k - a + 1 : Nat) : Int) := by rw [IntWalk.i64_in _ (by omega)]; omega
      have d0 : decide (((k - a : Nat) : Int) < 0) = false := decide_eq_false (by omega)
      have q1 : k - a ≤ (s.extract a s.size).size := by omega
      have q2 : k - a + 1 ≤ (s.extract a s.size).size := by omega
      have HS := Lib.hid (szr)
      generalize s.extract a s.size = r at *
      generalize k - a = m at *
      obtain ⟨fn, tmps, assign, body, hy, hR⟩ := hY pre ⟨s.extract a k, zu⟩ _ hJs (by omega)
      dsimp only at hy
      gi_wp2_with (refine ⟨trivial, ?_⟩; gi_at_call 102; refine (IW.out _).mono ?_; clear IW; rintro e w' ⟨rfl, rfl⟩)
      refine hR.mono ?_
      rintro e W3 (⟨rfl, hJ3, hk3⟩ | ⟨rfl, hJx3⟩)
      · have kb := blk_lo hk3 (by omega) hb
        have kb1 := blk_lo hk3 (by omega) hb1
        have kb2 := blk_lo hk3 (by omega) hb2
        clear hb hb1 hb2 c0 c1 c2 f0
        obtain ⟨_, c0, f0⟩ := kb.one
        obtain ⟨_, c1, _⟩ := kb1.one
        obtain ⟨_, c2, _⟩ := kb2.one
        gi_wp2
        go_roundw
        case rel => exact ⟨pre ++ [⟨s.extract a k, zu⟩], k + 1, by omega, by rw [HV.out]; exact kb.self1 _, kb1.far (by omega) 0 _, kb2.far (by omega) 0 _, by rw [bytes_snoc, List.append_assoc]; exact HX.out, by simp; omega, hJ _ _ _ (some b) hJ3 (grownBy_setCell' W3 b _) (fun r e => by cases e; rfl)⟩
        case measure =>
          rw [ho, HV.out, World.cell?_setCell_same _ _ _ c0]
          show (s.extract (k + 1) s.size).size < r.size
          rw [HS.out]
          simp only [ByteArray.size_extract]
          omega
      · gi_wp2
        refine bodyPost_ret (results_none rfl _ _ _) rfl ?_
        exact ⟨⟨_, rfl⟩, .inr ⟨_, ⟨_, by rw [bytes_snoc, List.append_assoc]; exact HX.out⟩, hJx3⟩⟩
    · have ee : endOf noSl s a = s.size := by omega
      rw [i2 (by omega)] at IW
      rw [sls_end h] at hx
      have HX := Lib.hid hx
      clear hx i1 i2
      have zu : (s.extract a s.size).size ≤ 1000000 := by omega
      obtain ⟨fn, tmps, assign, body, hy, hR⟩ := hY pre ⟨s.extract a s.size, zu⟩ _ hJs (by omega)
      dsimp only at hy
      generalize s.extract a s.size = r at *
      gi_wp2_with (refine ⟨trivial, ?_⟩; gi_at_call 102; refine (IW.out _).mono ?_; clear IW; rintro e w' ⟨rfl, rfl⟩)
      refine hR.mono ?_
      rintro e W3 (⟨rfl, hJ3, hk3⟩ | ⟨rfl, hJx3⟩)
      · gi_wp2
        go_end0
        exact ⟨⟨_, rfl⟩, .inl ⟨_, by rw [bytes_snoc]; exact HX.out, hJ3⟩⟩
      · gi_wp2
        go_end0
        exact ⟨⟨_, rfl⟩, .inr ⟨_, ⟨[], by rw [bytes_snoc, List.append_nil]; exact HX.out⟩, hJx3⟩⟩
theorem blk_grown {W W' : World} {row : Option Nat} (h : W.grownBy W' row) {x : Nat} (hx : ∀ r, row = some r → r ≠ x) {vs : List Value} (hB : Blk W x vs) : Blk W' x vs :=
  have e : W'.heap[x]? = W.heap[x]? := h.block x hB.lt fun c => hx x c.symm rfl
  ⟨Nat.lt_of_lt_of_le hB.lt h.size, hB.cs.mono fun i => ⟨World.cell?_of_block (w := W) (a := ⟨x, i, none⟩) e, World.frozen?_of_block (w := W) (a := ⟨x, i, none⟩) e⟩⟩
theorem below_grown {B : Nat} {w W W' : World} {row : Option Nat} (h : W.grownBy W' row) (hx : ∀ r, row = some r → B ≤ r) (hB : Below B w W) (hs : B ≤ w.heap.size) : Below B w W' :=
  ⟨h.os.trans hB.os, h.tape.trans hB.tape, h.output.trans hB.output, Nat.le_trans hB.size h.size, fun k hk => (h.block k (Nat.lt_of_lt_of_le (Nat.lt_of_lt_of_le hk hs) hB.size) fun c => by have := hx k c.symm; omega).trans (hB.block k hk)⟩
def partB (t : ByteArray) : Bool := madeB t 40 [95, 43, 45]
theorem all_parts {s : ByteArray} {ys : List Line} (e : bytesOf ys = slsFrom s 0) (h : ∀ x ∈ ys, partB x.1 = true) : (slsFrom s 0).all partB = true := by
  rw [← e, List.all_eq_true]
  intro t ht
  obtain ⟨x, hx, rfl⟩ := List.mem_map.1 ht
  exact h x hx
theorem no_parts {s : ByteArray} {pre : List Line} {r : List ByteArray} (e : bytesOf pre ++ r = slsFrom s 0) (h : ∃ x ∈ pre, partB x.1 = false) : (slsFrom s 0).all partB = false := by
  obtain ⟨x, hx, h⟩ := h
  rw [← e, ← Bool.not_eq_true, List.all_eq_true]
  intro c
  rw [c x.1 (List.mem_append_left _ (List.mem_map.2 ⟨x, hx, rfl⟩))] at h
  cases h
theorem placeP (s : ByteArray) (hs : s.size ≤ maxLen) (w : World) : Calls Tryz.prog 20 #[.string s] w (RetV w (.bool (placeB s))) := by
  have sz : s.size ≤ 9223372036854775807 := hs
  have EP : Hid (placeB s = (decide ((s.size : Int) ≤ 40) && (slsFrom s 0).all partB)) := Lib.hid (place_parts s)
  by_cases h40 : 40 < s.size
  · have d1 : decide (40 < (s.size : Int)) = true := decide_eq_true (by omega)
    have E := Lib.hid (show placeB s = false by rw [EP.out, decide_eq_false (by omega), Bool.false_and])
    go_enter Tryz.func20, Tryz.ntmps20
    go_wp2
    exact bodyPost_ret (v := .bool false) (by simp [results, Tryz.results20, go_sem]) rfl ⟨by rw [E.out], below_box _ _⟩
  have d1 : decide (40 < (s.size : Int)) = false := decide_eq_false (by omega)
  have E := Lib.hid (show placeB s = (slsFrom s 0).all partB by rw [EP.out, decide_eq_true (by omega), Bool.true_and])
  refine (callsIn_wide (n := 6)).1 ?_
  refine callsIn_of_wp_marks Tryz.func20 rfl trivial ?_ rfl
  simp only [Tryz.ntmps20, List.size_toArray, List.length_cons, List.length_nil, Nat.reduceAdd, Nat.reduceSub, Array.replicate_succ, Array.replicate_zero, List.push_toArray, List.append_toArray, List.nil_append, List.cons_append]
  gi_wp2_with (refine ⟨trivial, ?_⟩; gi_at_call 39; refine (seqs_made _ (by omega) _ _ _).mono ?_; rintro e w' ⟨rfl, rfl⟩)
  have MD := Lib.hid (fun (x : Line) w => callsIn_wide.2 (madeP x.1 ⟨#[95, 43, 45]⟩ 40 [95, 43, 45] rfl (by have := x.2; unfold maxLen; omega) w) : ∀ (x : Line) w, CallsIn Fence.wide 3 Tryz.prog 35 #[.string x.1, .int .i64 40, .string ⟨#[95, 43, 45]⟩] w (SameV w (.bool (partB x.1))))
  have hr := Blk.new1 w (.bool false) 4
  have h1 := Blk.new1 (w.alloc (.cells #[.bool false] 4)) (.string s) 9
  have h2 := Blk.new1 ((w.alloc (.cells #[.bool false] 4)).alloc (.cells #[.string s] 9)) (.string ⟨#[47]⟩) 9
  have h3 := Blk.new1 (((w.alloc (.cells #[.bool false] 4)).alloc (.cells #[.string s] 9)).alloc (.cells #[.string ⟨#[47]⟩] 9)) (.int .i64 0) 3
  have b1 := below_box w (.cells #[.bool false] 4)
  have b2 := below_box (w.alloc (.cells #[.bool false] 4)) (.cells #[.string s] 9)
  have b3 := below_box ((w.alloc (.cells #[.bool false] 4)).alloc (.cells #[.string s] 9)) (.cells #[.string ⟨#[47]⟩] 9)
  have b4 := below_box (((w.alloc (.cells #[.bool false] 4)).alloc (.cells #[.string s] 9)).alloc (.cells #[.string ⟨#[47]⟩] 9)) (.cells #[.int .i64 0] 3)
  replace hr := ((hr.below b2).below b3).below b4
  replace h1 := (h1.below b3).below b4
  replace h2 := h2.below b4
  have hB := below_thru (below_thru (below_thru b1 b2) b3) b4
  clear b1 b2 b3 b4
  have hz : ((((w.alloc (.cells #[.bool false] 4)).alloc (.cells #[.string s] 9)).alloc (.cells #[.string ⟨#[47]⟩] 9)).alloc (.cells #[.int .i64 0] 3)).heap.size = w.heap.size + 4 := by simp
  simp only [World.size_alloc] at h1 h2 h3
  generalize ((((w.alloc (.cells #[.bool false] 4)).alloc (.cells #[.string s] 9)).alloc (.cells #[.string ⟨#[47]⟩] 9)).alloc (.cells #[.int .i64 0] 3)) = W0 at *
  refine rangeFunc_box (F := Fence.wide) (n := 6) (α := Line) rfl (by omega) (gf := 100) (lb := #[.pointer (some ⟨w.heap.size + 1 + 1, 0, none⟩), .pointer (some ⟨w.heap.size + 1, 0, none⟩), .pointer (some ⟨w.heap.size + 1 + 2, 0, none⟩)]) rfl trivial (enters_of Tryz.func100 (by kernel_rfl) rfl)
    (encs := fun x => #[.string x.1]) (S := fun ys => bytesOf ys = slsFrom s 0) (Sp := fun pre => ∃ r, bytesOf pre ++ r = slsFrom s 0) (N := s.size + 1) (B := w.heap.size + 1) (by omega)
    (fun l J Jx W hW hJ hJx hY h0 => split_in 5 (by omega) l (w.heap.size + 1) W0.heap.size (by omega) s (by omega) J Jx W hJ hJx hY (h1.below hW) (h2.below hW) (h3.below hW) h0)
    (fun _ => rfl)
    (fun pre W => Blk W w.heap.size [.bool false] ∧ (∀ x ∈ pre, partB x.1 = true) ∧ Below w.heap.size w W)
    (fun c pre W => c = .ret ∧ Blk W w.heap.size [.bool false] ∧ (∃ x ∈ pre, partB x.1 = false) ∧ Below w.heap.size w W)
    (fun _ _ _ _ hs gr hr => ⟨blk_grown gr (fun r e => by have := hr r e; omega) hs.1, hs.2.1, below_grown gr (fun r e => by have := hr r e; omega) hs.2.2 (Nat.le_refl _)⟩)
    (fun _ _ _ _ _ hs gr hr => ⟨hs.1, blk_grown gr (fun r e => by have := hr r e; omega) hs.2.1, hs.2.2.1, below_grown gr (fun r e => by have := hr r e; omega) hs.2.2.2 (Nat.le_refl _)⟩)
    ⟨hr, (fun _ h => by cases h), hB⟩
    (fun x => { tmps := #[.string s, undef, .pointer (some ⟨w.heap.size, 0, none⟩), .string x.1, .string s, .int .i64 s.size, .bool false, .string s, .func (.func 100) #[] #[.pointer (some ⟨w.heap.size + 1 + 1, 0, none⟩), .pointer (some ⟨w.heap.size + 1, 0, none⟩), .pointer (some ⟨w.heap.size + 1 + 2, 0, none⟩)], .string x.1, undef, undef, undef], defers := [] }) ?asg ?bod ?fin ?off
  case asg =>
    intro l x W K hK
    gi_wp2
    exact hK
  case bod =>
    rintro l pre x W ⟨hr, ha, hB⟩ hlt
    obtain ⟨_, c0, f0⟩ := hr.one
    cases e1 : partB x.1 with
    | true =>
      have MW := Lib.hid (MD.out x)
      rw [e1] at MW
      have HA := Lib.hid (show ∀ y ∈ pre ++ [x], partB y.1 = true from fun y hy => by
        rcases List.mem_append.1 hy with h | h
        · exact ha y h
        · rw [List.mem_singleton.1 h]; exact e1)
      have HB := Lib.hid hB
      clear ha e1 MD hB
      gi_wp2_with (refine ⟨trivial, ?_⟩; gi_at_call 35; refine (CallsIn.inRound l (MW.out _)).mono ?_; clear MW; rintro e w' ⟨rfl, rfl⟩)
      exact ⟨KeepsFrom.refl _ _, Below.refl _ _, hr, HA.out, HB.out⟩
    | false =>
      have MW := Lib.hid (MD.out x)
      rw [e1] at MW
      have HA := Lib.hid (show ∃ y ∈ pre ++ [x], partB y.1 = false from ⟨x, List.mem_append_right _ (List.mem_singleton.2 rfl), e1⟩)
      have HB := Lib.hid hB
      clear ha e1 MD hB
      gi_wp2_with (refine ⟨trivial, ?_⟩; gi_at_call 35; refine (CallsIn.inRound l (MW.out _)).mono ?_; clear MW; rintro e w' ⟨rfl, rfl⟩)
      exact ⟨(KeepsOthers.setCell _ _ _).from _, rfl, hr.self1 _, HA.out, HB.out.setCell (p := ⟨w.heap.size, 0, none⟩) (Nat.le_refl _) _⟩
  case fin =>
    rintro D ys W hD hys ⟨hr, ha, hB⟩ hK
    have E2 := Lib.hid (E.out.trans (all_parts hys ha))
    obtain ⟨_, c0, f0⟩ := hr.one
    clear hys ha
    gi_wp2
    have hr2 := hr.self1 (.bool true)
    have hB2 := hB.setCell (p := ⟨w.heap.size, 0, none⟩) (Nat.le_refl _) (.bool true)
    have hK2 : (W.setCell ⟨w.heap.size, 0, none⟩ (.bool true)).heap[D]? = some (.deferred (some [])) := (Below.heap_setCell W ⟨w.heap.size, 0, none⟩ (.bool true) D (by show D ≠ w.heap.size; omega)).trans hK
    generalize W.setCell ⟨w.heap.size, 0, none⟩ (.bool true) = W2 at *
    refine ⟨by simp, .inl ⟨_, _, rfl, run_takeDeferred hK2, ?_⟩⟩
    have gr := grownBy_putObj' W2 D (.deferred none)
    have hr3 := blk_grown gr (fun r e => by cases e; omega) hr2
    obtain ⟨_, c3, _⟩ := hr3.one
    exact ⟨.bool true, by simp [results, Tryz.results20, go_sem, c3], by rw [E2.out], below_grown gr (fun r e => by cases e; omega) hB2 (Nat.le_refl _)⟩
  case off =>
    rintro D c pre W hD ⟨r, hp⟩ ⟨rfl, hr, ha, hB⟩ hK
    have E2 := Lib.hid (E.out.trans (no_parts hp ha))
    obtain ⟨_, c0, f0⟩ := hr.one
    clear hp ha
    gi_wp2
    refine ⟨by simp, .inl ⟨_, _, rfl, run_takeDeferred hK, ?_⟩⟩
    have gr := grownBy_putObj' W D (.deferred none)
    have hr3 := blk_grown gr (fun r e => by cases e; omega) hr
    obtain ⟨_, c3, _⟩ := hr3.one
    exact ⟨.bool false, by simp [results, Tryz.results20, go_sem, c3], by rw [E2.out], below_grown gr (fun r e => by cases e; omega) hB (Nat.le_refl _)⟩
end Go.Proofs.YtnkmlfbnfndfpaaGreatDoor
namespace Go.Proofs.YtnkmlfbnfndfpaaGreatDoor
open Go.RowKit
theorem full_text {t : ByteArray} (h : ¬ t.size = 0) : (t.toList == []) = false ∧ t.toList.isEmpty = false ∧ ¬ t.toList = [] := by
  have n : ¬ t.toList = [] := ne_toList h
  exact ⟨by rw [beq_eq_false_iff_ne]; exact n, List.isEmpty_eq_false_iff.2 n, n⟩
theorem containsP (s : ByteArray) (c : UInt8) (w : World) : Calls Tryz.prog 125 #[.string s, .string ⟨#[c]⟩] w (SameV w (.bool (decide (0 ≤ at_ s c)))) := by
  have IX : Hid (∀ W, Calls Tryz.prog 102 #[.string s, .string ⟨#[c]⟩] W fun e w' => e = .returned (.int .i64 (at_ s c)) ∧ w' = W) := Lib.hid (fun W => ystrings_Index_one s c W)
  by_cases h : 0 ≤ at_ s c
  · have d : decide (0 ≤ at_ s c) = true := decide_eq_true h
    generalize at_ s c = i at *
    go_enter Tryz.func125, Tryz.ntmps125
    go_wp2_with (go_at_call 102; refine (IX.out _).mono ?_; rintro e w' ⟨rfl, rfl⟩)
    go_ret
    exact ⟨by simp [d], rfl⟩
  · have d : decide (0 ≤ at_ s c) = false := decide_eq_false h
    generalize at_ s c = i at *
    go_enter Tryz.func125, Tryz.ntmps125
    go_wp2_with (go_at_call 102; refine (IX.out _).mono ?_; rintro e w' ⟨rfl, rfl⟩)
    go_ret
    exact ⟨by simp [d], rfl⟩
theorem one_eq {s : ByteArray} {c : UInt8} (h : 0 < s.size) : (s.extract 0 1).toList = [c] ↔ s[0].toNat = c.toNat := by
  have e : s.extract 0 1 = ⟨#[s[0]]⟩ := by
    apply ByteArray.ext
    apply Array.ext
    · show (s.extract 0 1).size = 1
      simp only [ByteArray.size_extract]
      omega
    · intro j h1 h2
      have h2' : j < 1 := h2
      have hz : j = 0 := by omega
      subst hz
      exact ByteArray.getElem_extract (show 0 < (s.extract 0 1).size from h1)
  rw [e, ByteArray.toList_eq]
  constructor
  · intro k
    simp at k
    rw [k]
  · intro k
    simp
    exact UInt8.toNat_inj.1 k
theorem prefixP (s : ByteArray) (c : UInt8) (hs : s.size ≤ maxLen) (w : World) : Calls Tryz.prog 126 #[.string s, .string ⟨#[c]⟩] w (SameV w (.bool (headB s c.toNat))) := by
  have sz : s.size ≤ 9223372036854775807 := hs
  by_cases h : 0 < s.size
  · have d : decide ((1 : Int) ≤ s.size) = true := decide_eq_true (by omega)
    have q1 : 1 ≤ s.size := h
    by_cases k : s[0].toNat = c.toNat
    · have E := Lib.hid (show headB s c.toNat = true by unfold headB; rw [dif_pos h, decide_eq_true k])
      have T : ((s.extract 0 1).toList == [c]) = true := by rw [beq_iff_eq]; exact (one_eq h).2 k
      clear k
      go_enter Tryz.func126, Tryz.ntmps126
      go_wp2
      go_ret
      exact ⟨by rw [E.out]; simp, rfl⟩
    · have E := Lib.hid (show headB s c.toNat = false by unfold headB; rw [dif_pos h, decide_eq_false k])
      have T : ((s.extract 0 1).toList == [c]) = false := by rw [beq_eq_false_iff_ne]; exact fun e => k ((one_eq h).1 e)
      clear k
      go_enter Tryz.func126, Tryz.ntmps126
      go_wp2
      go_ret
      exact ⟨by rw [E.out]; simp, rfl⟩
  · have d : decide ((1 : Int) ≤ s.size) = false := decide_eq_false (by omega)
    have E := Lib.hid (show headB s c.toNat = false from dif_neg h)
    go_enter Tryz.func126, Tryz.ntmps126
    go_wp2
    go_ret
    exact ⟨by rw [E.out]; simp, rfl⟩
def Ret3Dr (w : World) (a b : ByteArray) (f : Bool) (e : Ending) (w' : World) : Prop := e = .returned (.tuple #[.string a, .string b, .bool f]) ∧ ∃ n, w' = w.drewN n
theorem cut1L (s : ByteArray) (c : UInt8) (hs : s.size ≤ 1000000) (w : World) : Calls Tryz.prog 130 #[.string s, .string ⟨#[c]⟩] w (if 0 ≤ at_ s c then Ret3Dr w (s.extract 0 (at_ s c).toNat) (behindT s (at_ s c)) true else Ret3Dr w s ⟨#[]⟩ false) := by
  have IW : Hid (∀ W, Calls Tryz.prog 129 #[.string s, .string ⟨#[c]⟩] W fun e w' => e = .returned (.int .i64 (at_ s c)) ∧ w' = W) := Lib.hid (fun W => stringslite_Index_one s c W)
  by_cases h : 0 ≤ at_ s c
  · rw [if_pos h]
    obtain ⟨k, hk⟩ : ∃ k : Nat, at_ s c = (k : Int) := ⟨(at_ s c).toNat, by omega⟩
    obtain ⟨g, _, _⟩ := at_some hk
    have B := Lib.hid (show behindT s (k : Int) = s.extract (k + 1) s.size from rfl)
    rw [hk] at IW ⊢
    clear hk h
    have c2 : k ≤ s.size := by omega
    have c3 : wrap64 ((k : Int) + 1) = ((k + 1 : Nat) : Int) := by unfold wrap64; omega
    have c4 : k + 1 ≤ s.size := by omega
    go_enter Tryz.func130, Tryz.ntmps130
    go_wp2_with (go_at_call 129; refine (IW.out _).mono ?_; clear IW; rintro e w' ⟨rfl, rfl⟩)
    go_region
    all_goals
      go_wp2
      go_ret3
      exact ⟨by rw [B.out]; rfl, 1, rfl⟩
  · rw [if_neg h]
    have d : decide (0 ≤ at_ s c) = false := decide_eq_false h
    generalize at_ s c = i at *
    go_enter Tryz.func130, Tryz.ntmps130
    go_wp2_with (go_at_call 129; refine (IW.out _).mono ?_; clear IW; rintro e w' ⟨rfl, rfl⟩)
    go_ret3
    exact ⟨rfl, 0, rfl⟩
theorem cut1P (s : ByteArray) (c : UInt8) (a b : ByteArray) (f : Bool) (h : ∀ W, Calls Tryz.prog 130 #[.string s, .string ⟨#[c]⟩] W (Ret3Dr W a b f)) (w : World) : Calls Tryz.prog 104 #[.string s, .string ⟨#[c]⟩] w (Ret3Dr w a b f) := by
  have CL := Lib.hid h
  go_enter Tryz.func104, Tryz.ntmps104
  go_wp2_with (go_at_call 130; refine (CL.out _).mono ?_; clear CL; rintro e w' ⟨rfl, n, rfl⟩)
  go_ret3
  exact ⟨rfl, n, rfl⟩
theorem cut_yes {s : ByteArray} {c : UInt8} (hs : s.size ≤ 1000000) (h : 0 ≤ at_ s c) (w : World) : Calls Tryz.prog 104 #[.string s, .string ⟨#[c]⟩] w (Ret3Dr w (s.extract 0 (at_ s c).toNat) (behindT s (at_ s c)) true) :=
  cut1P s c _ _ _ (fun W => by have := cut1L s c hs W; rwa [if_pos h] at this) w
theorem cut_no {s : ByteArray} {c : UInt8} (hs : s.size ≤ 1000000) (h : ¬ 0 ≤ at_ s c) (w : World) : Calls Tryz.prog 104 #[.string s, .string ⟨#[c]⟩] w (Ret3Dr w s ⟨#[]⟩ false) :=
  cut1P s c _ _ _ (fun W => by have := cut1L s c hs W; rwa [if_neg h] at this) w
def RetDr (w : World) (v : Value) (e : Ending) (w' : World) : Prop := e = .returned v ∧ ∃ n, w' = w.drewN n
section
theorem fm_0 (s : ByteArray) (MD : Hid (∀ W, Calls Tryz.prog 35 #[.string s, .int .i64 20, .string ⟨#[43, 45, 37, 47]⟩] W (SameV W (.bool false)))) (w : World) : Calls Tryz.prog 97 #[.string s] w (RetDr w (.bool false)) := by
  go_enter Tryz.func97, Tryz.ntmps97
  go_wp2_with (go_at_call 35; refine (MD.out _).mono ?_; clear MD; rintro e w' ⟨rfl, rfl⟩)
  go_wp2
  go_ret
  exact ⟨by rfl, 0, rfl⟩
theorem fm_1 (s a b : ByteArray) (MD : Hid (∀ W, Calls Tryz.prog 35 #[.string s, .int .i64 20, .string ⟨#[43, 45, 37, 47]⟩] W (SameV W (.bool true)))) (CA : Hid (∀ W, Calls Tryz.prog 104 #[.string s, .string ⟨#[37]⟩] W (Ret3Dr W a b true))) (N1 : Hid (∀ W, Calls Tryz.prog 125 #[.string s, .string ⟨#[47]⟩] W (SameV W (.bool true)))) (w : World) : Calls Tryz.prog 97 #[.string s] w (RetDr w (.bool false)) := by
  go_enter Tryz.func97, Tryz.ntmps97
  go_wp2_with (go_at_call 35; refine (MD.out _).mono ?_; clear MD; rintro e w' ⟨rfl, rfl⟩)
  go_wp2_with (go_at_call 104; refine (CA.out _).mono ?_; clear CA; rintro e w' ⟨rfl, m1, rfl⟩)
  go_wp2_with (go_at_call 125; refine (N1.out _).mono ?_; clear N1; rintro e w' ⟨rfl, rfl⟩)
  go_wp2
  go_ret
  exact ⟨by rfl, m1, rfl⟩
theorem fm_2 (s a b : ByteArray) (MD : Hid (∀ W, Calls Tryz.prog 35 #[.string s, .int .i64 20, .string ⟨#[43, 45, 37, 47]⟩] W (SameV W (.bool true)))) (CA : Hid (∀ W, Calls Tryz.prog 104 #[.string s, .string ⟨#[37]⟩] W (Ret3Dr W a b true))) (N1 : Hid (∀ W, Calls Tryz.prog 125 #[.string s, .string ⟨#[47]⟩] W (SameV W (.bool false)))) (N2 : Hid (∀ W, Calls Tryz.prog 125 #[.string b, .string ⟨#[37]⟩] W (SameV W (.bool true)))) (w : World) : Calls Tryz.prog 97 #[.string s] w (RetDr w (.bool false)) := by
  go_enter Tryz.func97, Tryz.ntmps97
  go_wp2_with (go_at_call 35; refine (MD.out _).mono ?_; clear MD; rintro e w' ⟨rfl, rfl⟩)
  go_wp2_with (go_at_call 104; refine (CA.out _).mono ?_; clear CA; rintro e w' ⟨rfl, m1, rfl⟩)
  go_wp2_with (go_at_call 125; refine (N1.out _).mono ?_; clear N1; rintro e w' ⟨rfl, rfl⟩)
  go_wp2_with (go_at_call 125; refine (N2.out _).mono ?_; clear N2; rintro e w' ⟨rfl, rfl⟩)
  go_wp2
  go_ret
  exact ⟨by rfl, m1, rfl⟩
theorem fm_3 (s a b : ByteArray) (MD : Hid (∀ W, Calls Tryz.prog 35 #[.string s, .int .i64 20, .string ⟨#[43, 45, 37, 47]⟩] W (SameV W (.bool true)))) (CA : Hid (∀ W, Calls Tryz.prog 104 #[.string s, .string ⟨#[37]⟩] W (Ret3Dr W a b true))) (N1 : Hid (∀ W, Calls Tryz.prog 125 #[.string s, .string ⟨#[47]⟩] W (SameV W (.bool false)))) (N2 : Hid (∀ W, Calls Tryz.prog 125 #[.string b, .string ⟨#[37]⟩] W (SameV W (.bool false)))) (P1 : Hid (∀ W, Calls Tryz.prog 126 #[.string b, .string ⟨#[115]⟩] W (SameV W (.bool true)))) (w : World) : Calls Tryz.prog 97 #[.string s] w (RetDr w (.bool true)) := by
  go_enter Tryz.func97, Tryz.ntmps97
  go_wp2_with (go_at_call 35; refine (MD.out _).mono ?_; clear MD; rintro e w' ⟨rfl, rfl⟩)
  go_wp2_with (go_at_call 104; refine (CA.out _).mono ?_; clear CA; rintro e w' ⟨rfl, m1, rfl⟩)
  go_wp2_with (go_at_call 125; refine (N1.out _).mono ?_; clear N1; rintro e w' ⟨rfl, rfl⟩)
  go_wp2_with (go_at_call 125; refine (N2.out _).mono ?_; clear N2; rintro e w' ⟨rfl, rfl⟩)
  go_wp2_with (go_at_call 126; refine (P1.out _).mono ?_; clear P1; rintro e w' ⟨rfl, rfl⟩)
  go_wp2
  go_ret
  exact ⟨by rfl, m1, rfl⟩
theorem fm_4 (s a b : ByteArray) (f : Bool) (MD : Hid (∀ W, Calls Tryz.prog 35 #[.string s, .int .i64 20, .string ⟨#[43, 45, 37, 47]⟩] W (SameV W (.bool true)))) (CA : Hid (∀ W, Calls Tryz.prog 104 #[.string s, .string ⟨#[37]⟩] W (Ret3Dr W a b true))) (N1 : Hid (∀ W, Calls Tryz.prog 125 #[.string s, .string ⟨#[47]⟩] W (SameV W (.bool false)))) (N2 : Hid (∀ W, Calls Tryz.prog 125 #[.string b, .string ⟨#[37]⟩] W (SameV W (.bool false)))) (P1 : Hid (∀ W, Calls Tryz.prog 126 #[.string b, .string ⟨#[115]⟩] W (SameV W (.bool false)))) (P2 : Hid (∀ W, Calls Tryz.prog 126 #[.string b, .string ⟨#[122]⟩] W (SameV W (.bool f)))) (w : World) : Calls Tryz.prog 97 #[.string s] w (RetDr w (.bool f)) := by
  go_enter Tryz.func97, Tryz.ntmps97
  go_wp2_with (go_at_call 35; refine (MD.out _).mono ?_; clear MD; rintro e w' ⟨rfl, rfl⟩)
  go_wp2_with (go_at_call 104; refine (CA.out _).mono ?_; clear CA; rintro e w' ⟨rfl, m1, rfl⟩)
  go_wp2_with (go_at_call 125; refine (N1.out _).mono ?_; clear N1; rintro e w' ⟨rfl, rfl⟩)
  go_wp2_with (go_at_call 125; refine (N2.out _).mono ?_; clear N2; rintro e w' ⟨rfl, rfl⟩)
  go_wp2_with (go_at_call 126; refine (P1.out _).mono ?_; clear P1; rintro e w' ⟨rfl, rfl⟩)
  go_wp2_with (go_at_call 126; refine (P2.out _).mono ?_; clear P2; rintro e w' ⟨rfl, rfl⟩)
  go_wp2
  go_ret
  exact ⟨by rfl, m1, rfl⟩
theorem fm_5 (s a b : ByteArray) (MD : Hid (∀ W, Calls Tryz.prog 35 #[.string s, .int .i64 20, .string ⟨#[43, 45, 37, 47]⟩] W (SameV W (.bool true)))) (CA : Hid (∀ W, Calls Tryz.prog 104 #[.string s, .string ⟨#[37]⟩] W (Ret3Dr W s ⟨#[]⟩ false))) (CB : Hid (∀ W, Calls Tryz.prog 104 #[.string s, .string ⟨#[47]⟩] W (Ret3Dr W a b false))) (w : World) : Calls Tryz.prog 97 #[.string s] w (RetDr w (.bool true)) := by
  go_enter Tryz.func97, Tryz.ntmps97
  go_wp2_with (go_at_call 35; refine (MD.out _).mono ?_; clear MD; rintro e w' ⟨rfl, rfl⟩)
  go_wp2_with (go_at_call 104; refine (CA.out _).mono ?_; clear CA; rintro e w' ⟨rfl, m1, rfl⟩)
  go_wp2_with (go_at_call 104; refine (CB.out _).mono ?_; clear CB; rintro e w' ⟨rfl, m2, rfl⟩)
  go_wp2
  go_ret
  exact ⟨by rfl, m1 + m2, rfl⟩
theorem fm_6 (s b : ByteArray) (MD : Hid (∀ W, Calls Tryz.prog 35 #[.string s, .int .i64 20, .string ⟨#[43, 45, 37, 47]⟩] W (SameV W (.bool true)))) (CA : Hid (∀ W, Calls Tryz.prog 104 #[.string s, .string ⟨#[37]⟩] W (Ret3Dr W s ⟨#[]⟩ false))) (CB : Hid (∀ W, Calls Tryz.prog 104 #[.string s, .string ⟨#[47]⟩] W (Ret3Dr W ⟨#[]⟩ b true))) (w : World) : Calls Tryz.prog 97 #[.string s] w (RetDr w (.bool false)) := by
  go_enter Tryz.func97, Tryz.ntmps97
  go_wp2_with (go_at_call 35; refine (MD.out _).mono ?_; clear MD; rintro e w' ⟨rfl, rfl⟩)
  go_wp2_with (go_at_call 104; refine (CA.out _).mono ?_; clear CA; rintro e w' ⟨rfl, m1, rfl⟩)
  go_wp2_with (go_at_call 104; refine (CB.out _).mono ?_; clear CB; rintro e w' ⟨rfl, m2, rfl⟩)
  go_wp2
  go_ret
  exact ⟨by rfl, m1 + m2, rfl⟩
theorem fm_7 (s a : ByteArray) (MD : Hid (∀ W, Calls Tryz.prog 35 #[.string s, .int .i64 20, .string ⟨#[43, 45, 37, 47]⟩] W (SameV W (.bool true)))) (CA : Hid (∀ W, Calls Tryz.prog 104 #[.string s, .string ⟨#[37]⟩] W (Ret3Dr W s ⟨#[]⟩ false))) (CB : Hid (∀ W, Calls Tryz.prog 104 #[.string s, .string ⟨#[47]⟩] W (Ret3Dr W a ⟨#[]⟩ true))) (fa : (a.toList == []) = false ∧ a.toList.isEmpty = false ∧ ¬ a.toList = []) (w : World) : Calls Tryz.prog 97 #[.string s] w (RetDr w (.bool false)) := by
  obtain ⟨_, _, _⟩ := fa
  go_enter Tryz.func97, Tryz.ntmps97
  go_wp2_with (go_at_call 35; refine (MD.out _).mono ?_; clear MD; rintro e w' ⟨rfl, rfl⟩)
  go_wp2_with (go_at_call 104; refine (CA.out _).mono ?_; clear CA; rintro e w' ⟨rfl, m1, rfl⟩)
  go_wp2_with (go_at_call 104; refine (CB.out _).mono ?_; clear CB; rintro e w' ⟨rfl, m2, rfl⟩)
  go_wp2
  go_ret
  exact ⟨by rfl, m1 + m2, rfl⟩
theorem fm_8 (s a b : ByteArray) (f : Bool) (MD : Hid (∀ W, Calls Tryz.prog 35 #[.string s, .int .i64 20, .string ⟨#[43, 45, 37, 47]⟩] W (SameV W (.bool true)))) (CA : Hid (∀ W, Calls Tryz.prog 104 #[.string s, .string ⟨#[37]⟩] W (Ret3Dr W s ⟨#[]⟩ false))) (CB : Hid (∀ W, Calls Tryz.prog 104 #[.string s, .string ⟨#[47]⟩] W (Ret3Dr W a b true))) (fa : (a.toList == []) = false ∧ a.toList.isEmpty = false ∧ ¬ a.toList = []) (fb : (b.toList == []) = false ∧ b.toList.isEmpty = false ∧ ¬ b.toList = []) (N1 : Hid (∀ W, Calls Tryz.prog 125 #[.string b, .string ⟨#[47]⟩] W (SameV W (.bool f)))) (w : World) : Calls Tryz.prog 97 #[.string s] w (RetDr w (.bool (!f))) := by
  obtain ⟨_, _, _⟩ := fa
  obtain ⟨_, _, _⟩ := fb
  go_enter Tryz.func97, Tryz.ntmps97
  go_wp2_with (go_at_call 35; refine (MD.out _).mono ?_; clear MD; rintro e w' ⟨rfl, rfl⟩)
  go_wp2_with (go_at_call 104; refine (CA.out _).mono ?_; clear CA; rintro e w' ⟨rfl, m1, rfl⟩)
  go_wp2_with (go_at_call 104; refine (CB.out _).mono ?_; clear CB; rintro e w' ⟨rfl, m2, rfl⟩)
  go_wp2_with (go_at_call 125; refine (N1.out _).mono ?_; clear N1; rintro e w' ⟨rfl, rfl⟩)
  go_wp2
  go_ret
  exact ⟨by rfl, m1 + m2, rfl⟩
end
theorem formatP (s : ByteArray) (hs : s.size ≤ maxLen) (w : World) : Calls Tryz.prog 97 #[.string s] w (RetDr w (.bool (formatB s))) := by
  rw [fmt_code]
  unfold fmtC
  have MD := fun W => madeP s ⟨#[43, 45, 37, 47]⟩ 20 [43, 45, 37, 47] rfl hs W
  cases e0 : madeB s 20 [43, 45, 37, 47] with
  | false =>
    rw [e0] at MD
    exact fm_0 s (Lib.hid MD) w
  | true =>
    rw [e0] at MD
    have h20 : s.size ≤ 20 := by
      unfold madeB at e0
      rw [Bool.and_eq_true, Bool.and_eq_true, decide_eq_true_eq, decide_eq_true_eq] at e0
      omega
    have hb : ∀ i, (behindT s i).size ≤ maxLen := fun i => by unfold behindT; simp only [ByteArray.size_extract]; unfold maxLen; omega
    rw [Bool.true_and]
    by_cases h37 : 0 ≤ at_ s 37
    · rw [if_pos h37]
      have CA := fun W => cut_yes (s := s) (c := 37) (by omega) h37 W
      have N1 := fun W => containsP s 47 W
      have N2 := fun W => containsP (behindT s (at_ s 37)) 37 W
      have P1 := fun W => prefixP (behindT s (at_ s 37)) 115 (hb _) W
      have P2 := fun W => prefixP (behindT s (at_ s 37)) 122 (hb _) W
      by_cases h47 : 0 ≤ at_ s 47
      · rw [decide_eq_true h47] at N1
        rw [decide_eq_false (p := at_ s 47 < 0) (by omega), Bool.false_and, Bool.false_and]
        exact fm_1 s _ _ (Lib.hid MD) (Lib.hid CA) (Lib.hid N1) w
      rw [decide_eq_false h47] at N1
      rw [decide_eq_true (p := at_ s 47 < 0) (by omega), Bool.true_and]
      by_cases hp : 0 ≤ at_ (behindT s (at_ s 37)) 37
      · rw [decide_eq_true hp] at N2
        rw [decide_eq_false (p := at_ (behindT s (at_ s 37)) 37 < 0) (by omega), Bool.false_and]
        exact fm_2 s _ _ (Lib.hid MD) (Lib.hid CA) (Lib.hid N1) (Lib.hid N2) w
      rw [decide_eq_false hp] at N2
      rw [decide_eq_true (p := at_ (behindT s (at_ s 37)) 37 < 0) (by omega), Bool.true_and]
      cases e1 : headB (behindT s (at_ s 37)) 115 with
      | true =>
        rw [show (115 : UInt8).toNat = 115 from rfl, e1] at P1
        exact fm_3 s _ _ (Lib.hid MD) (Lib.hid CA) (Lib.hid N1) (Lib.hid N2) (Lib.hid P1) w
      | false =>
        rw [show (115 : UInt8).toNat = 115 from rfl, e1] at P1
        exact fm_4 s _ _ _ (Lib.hid MD) (Lib.hid CA) (Lib.hid N1) (Lib.hid N2) (Lib.hid P1) (Lib.hid P2) w
    · rw [if_neg h37]
      have CA := fun W => cut_no (s := s) (c := 37) (by omega) h37 W
      by_cases h47 : 0 ≤ at_ s 47
      · rw [if_pos h47]
        have CB := fun W => cut_yes (s := s) (c := 47) (by omega) h47 W
        have N1 := fun W => containsP (behindT s (at_ s 47)) 47 W
        by_cases z : at_ s 47 = 0
        · rw [z] at CB ⊢
          rw [show s.extract 0 (0 : Int).toNat = ⟨#[]⟩ from empty_is (by simp)] at CB
          exact fm_6 s _ (Lib.hid MD) (Lib.hid CA) (Lib.hid CB) w
        obtain ⟨g, _, _⟩ := at_some (s := s) (c := 47) (o := (at_ s 47).toNat) (by omega)
        have fa := full_text (t := s.extract 0 (at_ s 47).toNat) (by simp only [ByteArray.size_extract]; omega)
        rw [decide_eq_true (p := ¬ at_ s 47 = 0) z, Bool.true_and]
        by_cases y : (behindT s (at_ s 47)).size = 0
        · rw [decide_eq_false (p := ¬ (behindT s (at_ s 47)).size = 0) (fun c => c y), Bool.false_and]
          rw [empty_is y] at CB
          exact fm_7 s _ (Lib.hid MD) (Lib.hid CA) (Lib.hid CB) fa w
        · rw [decide_eq_true (p := ¬ (behindT s (at_ s 47)).size = 0) y, Bool.true_and]
          have ee : decide (at_ (behindT s (at_ s 47)) 47 < 0) = !decide (0 ≤ at_ (behindT s (at_ s 47)) 47) := by
            rw [← decide_not, Bool.eq_iff_iff]
            simp only [decide_eq_true_eq]
            omega
          rw [ee]
          exact fm_8 s _ _ _ (Lib.hid MD) (Lib.hid CA) (Lib.hid CB) fa (full_text y) (Lib.hid N1) w
      · rw [if_neg h47]
        exact fm_5 s _ _ (Lib.hid MD) (Lib.hid CA) (Lib.hid fun W => cut_no (s := s) (c := 47) (by omega) h47 W) w
end Go.Proofs.YtnkmlfbnfndfpaaGreatDoor
namespace Go.Proofs.YtnkmlfbnfndfpaaGreatDoor
open Go.RowKit
def rdVals (vr vz vl : Value) (ln st en : Int) (wv : Value) : List Value := [vr, vz, vl, .int .i64 ln, .int .i64 st, .int .i64 en, wv]
structure Wd (W : World) (R : Nat) (A : Option Addr) (n c : Nat) (l : List (ByteArray × Int)) : Prop where
  fs : Fs W A n c l
  ne : ∀ a, A = some a → 0 < n → a.block ≠ R
abbrev Gr (R : Nat) (W W' : World) : Prop := W.grownBy W' (some R)
structure Rdr (w0 : World) (R : Nat) (V : World) (vr vz vl : Value) (ln st en : Int) (l : List (ByteArray × Int)) (W : World) : Prop where
  ge : w0.heap.size ≤ R
  hb : Below w0.heap.size w0 W
  gr : Gr R V W
  at_ : ∃ A n c, Blk W R (rdVals vr vz vl ln st en (.slice A n c)) ∧ Wd V R A n c l
def PanF (w0 : World) (f : Flt) (e : Ending) (W' : World) : Prop := e = .panicked [{ v := .iface 29 f.val, recovered := false }] ∧ Below w0.heap.size w0 W'
def Out (w0 : World) (f : Flt) (ok : Ending → World → Prop) (e : Ending) (W' : World) : Prop := (¬ f.1 = 0 ∧ PanF w0 f e W') ∨ (f.1 = 0 ∧ ok e W')
theorem Wd.keep {W W' : World} {R : Nat} {A : Option Addr} {n c : Nat} {l : List (ByteArray × Int)} (h : Wd W R A n c l) (g : Gr R W W') : Wd W' R A n c l :=
  ⟨⟨h.fs.len, h.fs.cap, h.fs.max, fun hn => by
    obtain ⟨b, o, e, hb, hc⟩ := h.fs.cells hn
    have ne := h.ne _ e hn
    have eq : W'.heap[b]? = W.heap[b]? := g.block b hb fun c => ne (by cases c; rfl)
    exact ⟨b, o, e, Nat.lt_of_lt_of_le hb g.size, fun j hj => ⟨(World.cell?_of_block (w := W) (a := ⟨b, o + 2 * j, none⟩) eq).trans (hc j hj).1, (World.cell?_of_block (w := W) (a := ⟨b, o + 2 * j + 1, none⟩) eq).trans (hc j hj).2⟩⟩⟩, h.ne⟩
theorem Gr.below {w0 W W' : World} {R : Nat} (g : Gr R W W') (ge : w0.heap.size ≤ R) (hb : Below w0.heap.size w0 W) : Below w0.heap.size w0 W' := below_grown g (fun r e => by cases e; exact ge) hb (Nat.le_refl _)
theorem Gr.refl (R : Nat) (W : World) : Gr R W W := ⟨rfl, rfl, rfl, Nat.le_refl _, fun _ _ _ => rfl⟩
theorem Gr.trans {R : Nat} {A B C : World} (h : Gr R A B) (k : Gr R B C) : Gr R A C :=
  ⟨k.os.trans h.os, k.tape.trans h.tape, k.output.trans h.output, Nat.le_trans h.size k.size, fun i hi hn => (k.block i (Nat.lt_of_lt_of_le hi h.size) hn).trans (h.block i hi hn)⟩
theorem Gr.of_below {R : Nat} {A B : World} (h : Below A.heap.size A B) : Gr R A B := ⟨h.os, h.tape, h.output, h.size, fun i hi _ => h.block i hi⟩
theorem Gr.set {R : Nat} (W : World) (o : Nat) (v : Value) : Gr R W (W.setCell ⟨R, o, none⟩ v) := ⟨rfl, rfl, rfl, by simp [World.setCell], fun k _ hk => Below.heap_setCell W ⟨R, o, none⟩ v k fun e => hk (by rw [e])⟩
theorem Rdr.below {w0 V W W' : World} {R : Nat} {vr vz vl : Value} {ln st en : Int} {l : List (ByteArray × Int)} (h : Rdr w0 R V vr vz vl ln st en l W) (hb : Below W.heap.size W W') : Rdr w0 R V vr vz vl ln st en l W' := by
  obtain ⟨A, n, c, hB, hW⟩ := h.at_
  exact ⟨h.ge, (Gr.of_below (R := R) hb).below h.ge h.hb, h.gr.trans (Gr.of_below hb), A, n, c, hB.below hb, hW⟩
theorem Gr.store {R : Nat} {A B : World} (h : Gr R A B) {b : Nat} (hb : A.heap.size ≤ b) (o : Nat) (v : Value) : Gr R A (B.setCell ⟨b, o, none⟩ v) :=
  ⟨h.os, h.tape, h.output, by simpa [World.setCell] using h.size, fun k hk hn => (Below.heap_setCell B ⟨b, o, none⟩ v k (by show k ≠ b; omega)).trans (h.block k hk hn)⟩
theorem Rdr.store {w0 V W : World} {R : Nat} {vr vz vl : Value} {ln st en : Int} {l : List (ByteArray × Int)} (h : Rdr w0 R V vr vz vl ln st en l W) {b : Nat} (hb : V.heap.size ≤ b) (hw : w0.heap.size ≤ b) (ne : b ≠ R) (o : Nat) (v : Value) : Rdr w0 R V vr vz vl ln st en l (W.setCell ⟨b, o, none⟩ v) := by
  obtain ⟨A, n, c, hB, hW⟩ := h.at_
  exact ⟨h.ge, h.hb.setCell (p := ⟨b, o, none⟩) hw v, h.gr.store hb o v, A, n, c, hB.far ne o v, hW⟩
theorem Blk.sevenR {W : World} {b : Nat} {v0 v1 v2 v3 v4 v5 v6 : Value} (h : Blk W b [v0, v1, v2, v3, v4, v5, v6]) : b < W.heap.size ∧ (W.cell? ⟨b, 0, none⟩ = some v0 ∧ W.cell? ⟨b, 1, none⟩ = some v1 ∧ W.cell? ⟨b, 2, none⟩ = some v2 ∧ W.cell? ⟨b, 3, none⟩ = some v3 ∧ W.cell? ⟨b, 4, none⟩ = some v4 ∧ W.cell? ⟨b, 5, none⟩ = some v5 ∧ W.cell? ⟨b, 6, none⟩ = some v6) ∧
    (W.frozen? ⟨b, 0, none⟩ = false ∧ W.frozen? ⟨b, 1, none⟩ = false ∧ W.frozen? ⟨b, 2, none⟩ = false ∧ W.frozen? ⟨b, 3, none⟩ = false ∧ W.frozen? ⟨b, 4, none⟩ = false ∧ W.frozen? ⟨b, 5, none⟩ = false ∧ W.frozen? ⟨b, 6, none⟩ = false) :=
  ⟨h.lt, ⟨h.cs.1, h.cs.2.2.1, h.cs.2.2.2.2.1, h.cs.2.2.2.2.2.2.1, h.cs.2.2.2.2.2.2.2.2.1, h.cs.2.2.2.2.2.2.2.2.2.2.1, h.cs.2.2.2.2.2.2.2.2.2.2.2.2.1⟩,
    h.cs.2.1, h.cs.2.2.2.1, h.cs.2.2.2.2.2.1, h.cs.2.2.2.2.2.2.2.1, h.cs.2.2.2.2.2.2.2.2.2.1, h.cs.2.2.2.2.2.2.2.2.2.2.2.1, h.cs.2.2.2.2.2.2.2.2.2.2.2.2.2.1⟩
theorem failP (w0 : World) (R : Nat) (vr vz vl : Value) (ln st en : Int) (l : List (ByteArray × Int)) (x a : Int) (V W : World) (h : Rdr w0 R V vr vz vl ln st en l W) :
    Calls Tryz.prog 47 #[.pointer (some ⟨R, 0, none⟩), .int .i64 x, .int .i64 a] W (PanF w0 (x, ln, a)) := by
  obtain ⟨A, n, c, hB, hV⟩ := h.at_
  have hW := hV.keep h.gr
  obtain ⟨lt, ⟨c0, c1, c2, c3, c4, c5, c6⟩, _⟩ := hB.sevenR
  have HB := Lib.hid h.hb
  clear h hB hW
  go_enter Tryz.func47, Tryz.ntmps47
  go_wp2
  exact ⟨rfl, rfl, HB.out⟩
theorem roomP (w0 : World) (R : Nat) (vr vz vl : Value) (ln st en : Int) (l : List (ByteArray × Int)) (n most : Int) (V W : World) (h : Rdr w0 R V vr vz vl ln st en l W) :
    Calls Tryz.prog 108 #[.pointer (some ⟨R, 0, none⟩), .int .i64 n, .int .i64 most] W (Out w0 (chk (decide (n < most)) (12, ln, st)) fun e W' => e = .returned (.tuple #[]) ∧ W = W') := by
  have FL := Lib.hid (fun x a W h => failP w0 R vr vz vl ln st en l x a V W h)
  have H := Lib.hid h
  obtain ⟨A, n', c', hB, hW⟩ := h.at_
  obtain ⟨lt, ⟨c0, c1, c2, c3, c4, c5, c6⟩, _⟩ := hB.sevenR
  clear h hB hW
  by_cases hn : n < most
  · have d : decide (most ≤ n) = false := decide_eq_false (by omega)
    have E := Lib.hid (show chk (decide (n < most)) (12, ln, st) = Flt.no from chk_yes _ (decide_eq_true hn))
    clear hn FL
    go_enter Tryz.func108, Tryz.ntmps108
    go_wp2
    go_end0
    exact .inr ⟨by rw [E.out]; rfl, rfl, rfl⟩
  · have d : decide (most ≤ n) = true := decide_eq_true (by omega)
    have E := Lib.hid (show chk (decide (n < most)) (12, ln, st) = (12, ln, st) from chk_no _ (decide_eq_false hn))
    clear hn
    go_enter Tryz.func108, Tryz.ntmps108
    go_wp2_with (go_at_call 47; refine (FL.out _ _ _ H.out).mono ?_; clear FL; rintro e W' ⟨rfl, hb⟩)
    exact ⟨rfl, .inl ⟨by rw [E.out]; exact (by decide : ¬ (12 : Int) = 0), by rw [E.out]; exact ⟨rfl, hb⟩⟩⟩
def szFlt (ws : List (ByteArray × Int)) (en ln : Int) (few most : Nat) : Flt := if ws.length < few then (14, ln, en) else if most < ws.length then (15, ln, fa ws most) else Flt.no
theorem sizedP (w0 : World) (R : Nat) (vr vz vl : Value) (ln st en : Int) (l : List (ByteArray × Int)) (few most : Nat) (_hm : most ≤ 1000) (_hf : few ≤ 1000) (V W : World) (h : Rdr w0 R V vr vz vl ln st en l W) :
    Calls Tryz.prog 109 #[.pointer (some ⟨R, 0, none⟩), .int .i64 few, .int .i64 most] W (Out w0 (szFlt l en ln few most) fun e W' => e = .returned (.tuple #[]) ∧ W = W') := by
  have FL := Lib.hid (fun x a W h => failP w0 R vr vz vl ln st en l x a V W h)
  have H := Lib.hid h
  obtain ⟨A, n, c, hB, hV⟩ := h.at_
  have hW := hV.keep h.gr
  obtain ⟨lt, ⟨c0, c1, c2, c3, c4, c5, c6⟩, _⟩ := hB.sevenR
  obtain rfl := hW.fs.len
  have hmx := hW.fs.max
  have hcp := hW.fs.cap
  unfold maxLen at hmx
  by_cases h1 : l.length < few
  · have d : decide (l.length < few) = true := decide_eq_true h1
    have d' : decide ((l.length : Int) < few) = true := decide_eq_true (by omega)
    have E := Lib.hid (show szFlt l en ln few most = (14, ln, en) from if_pos h1)
    clear h1 h hB hW
    go_enter Tryz.func109, Tryz.ntmps109
    go_wp2_with (go_at_call 47; refine (FL.out _ _ _ H.out).mono ?_; clear FL; rintro e W' ⟨rfl, hb⟩)
    exact ⟨rfl, .inl ⟨by rw [E.out]; exact (by decide : ¬ (14 : Int) = 0), by rw [E.out]; exact ⟨rfl, hb⟩⟩⟩
  have d : decide (l.length < few) = false := decide_eq_false h1
  have d' : decide ((l.length : Int) < few) = false := decide_eq_false (by omega)
  by_cases h2 : most < l.length
  · have g : decide (most < l.length) = true := decide_eq_true h2
    have g' : decide ((most : Int) < l.length) = true := decide_eq_true (by omega)
    have E := Lib.hid (show szFlt l en ln few most = (15, ln, fa l most) by unfold szFlt; rw [if_neg h1, if_pos h2])
    obtain ⟨b, o, rfl, hb, hc⟩ := hW.fs.cells (by omega)
    obtain ⟨_, x1⟩ := hc most h2
    have fe : l[most].2 = fa l most := by unfold fa; rw [List.getD_eq_getElem?_getD, List.getElem?_eq_getElem h2]; rfl
    rw [fe, Nat.mul_comm] at x1
    generalize fa l most = q at *
    clear h1 h hB hW hc fe
    go_enter Tryz.func109, Tryz.ntmps109
    go_wp2_with (go_at_call 47; refine (FL.out _ _ _ H.out).mono ?_; clear FL; rintro e W' ⟨rfl, hb⟩)
    exact ⟨rfl, .inl ⟨by rw [E.out]; exact (by decide : ¬ (15 : Int) = 0), by rw [E.out]; exact ⟨rfl, hb⟩⟩⟩
  · have g : decide (most < l.length) = false := decide_eq_false h2
    have g' : decide ((most : Int) < l.length) = false := decide_eq_false (by omega)
    have E := Lib.hid (show szFlt l en ln few most = Flt.no by unfold szFlt; rw [if_neg h1, if_neg h2])
    clear h1 h2 h hB hW FL
    go_enter Tryz.func109, Tryz.ntmps109
    go_wp2
    go_end0
    exact .inr ⟨by rw [E.out]; rfl, rfl, rfl⟩
theorem Wd.first {W : World} {R : Nat} {A : Option Addr} {n c : Nat} {t : ByteArray} {i : Int} {l : List (ByteArray × Int)} (h : Wd W R A n c ((t, i) :: l)) : ∃ b o, A = some ⟨b, o, none⟩ ∧ b ≠ R ∧ b < W.heap.size ∧ W.cell? ⟨b, o, none⟩ = some (.string t) ∧ W.cell? ⟨b, o + 1, none⟩ = some (.int .i64 i) ∧ n = l.length + 1 ∧
    Wd W R (some ⟨b, o + 2, none⟩) (n - 1) (c - 1) l := by
  have hn : l.length + 1 = n := h.fs.len
  obtain ⟨b, o, rfl, hb, hc⟩ := h.fs.cells (by omega)
  have h0 := hc 0 (by simp)
  have ne := h.ne _ rfl (by omega)
  refine ⟨b, o, rfl, ne, hb, h0.1, h0.2, by omega, ⟨by omega, by have := h.fs.cap; omega, by have := h.fs.max; omega, fun hp => ⟨b, o + 2, rfl, hb, fun j hj => ?_⟩⟩, fun a e _ => by cases e; exact ne⟩
  have := hc (j + 1) (by simpa using hj)
  rw [show o + 2 + 2 * j = o + 2 * (j + 1) by omega]
  exact this
theorem Wd.none_left {W : World} {R : Nat} {A A' : Option Addr} {n c : Nat} (_h : Wd W R A n c []) (c' : Nat) (hc : c' ≤ maxLen) : Wd W R A' 0 c' [] := ⟨⟨rfl, Nat.zero_le _, hc, fun k => (Nat.lt_irrefl 0 k).elim⟩, fun _ _ k => (Nat.lt_irrefl 0 k).elim⟩
theorem Blk.words {W : World} {R : Nat} {vr vz vl wv : Value} {ln st en : Int} (hB : Blk W R (rdVals vr vz vl ln st en wv)) (v : Value) : Blk (W.setCell ⟨R, 6, none⟩ v) R (rdVals vr vz vl ln st en v) := by
  obtain ⟨lt, ⟨c0, c1, c2, c3, c4, c5, c6⟩, ⟨f0, f1, f2, f3, f4, f5, f6⟩⟩ := hB.sevenR
  have o : ∀ k : Nat, k ≠ 6 → (W.setCell ⟨R, 6, none⟩ v).cell? ⟨R, k, none⟩ = W.cell? ⟨R, k, none⟩ := fun k hk => World.cell?_setCell_other _ _ _ _ (fun e => hk (by cases e; rfl))
  exact ⟨by simpa [World.setCell] using lt, (o 0 (by decide)).trans c0, by simpa using f0, (o 1 (by decide)).trans c1, by simpa using f1, (o 2 (by decide)).trans c2, by simpa using f2, (o 3 (by decide)).trans c3, by simpa using f3, (o 4 (by decide)).trans c4, by simpa using f4,
    (o 5 (by decide)).trans c5, by simpa using f5, World.cell?_setCell_same _ _ _ c6, by simpa using f6, trivial⟩
theorem Rdr.words {w0 V W : World} {R : Nat} {vr vz vl wv : Value} {ln st en : Int} {l : List (ByteArray × Int)} (ge : w0.heap.size ≤ R) (hb : Below w0.heap.size w0 W) (gr : Gr R V W) (hB : Blk W R (rdVals vr vz vl ln st en wv)) {A : Option Addr} {n c : Nat} (hW : Wd V R A n c l) :
    Rdr w0 R V vr vz vl ln st en l (W.setCell ⟨R, 6, none⟩ (.slice A n c)) :=
  ⟨ge, hb.setCell (p := ⟨R, 6, none⟩) ge _, gr.trans (Gr.set W 6 _), A, n, c, hB.words _, hW⟩
def ReadF (w0 : World) (R : Nat) (W : World) (K : FuncId) (caps : Array Value) (t : ByteArray) (v : Value) (x : Int) : Prop :=
  ∀ W', Gr R W W' → Below w0.heap.size w0 W' → Calls Tryz.prog K (#[.string t] ++ caps) W' fun e w' => e = .returned (.tuple #[v, .int .i64 x]) ∧ Below W'.heap.size W' w'
theorem took {w0 V W : World} {R : Nat} {vr vz vl wv : Value} {ln st en : Int} {l : List (ByteArray × Int)} (ge : w0.heap.size ≤ R) (hb : Below w0.heap.size w0 W) (gr : Gr R V W) (hB : Blk W R (rdVals vr vz vl ln st en wv)) {A : Option Addr} {n c : Nat} (hW : Wd V R A n c l) (t : ByteArray) (i : Int) (T : TypeId) :
    Gr R W ((W.setCell ⟨R, 6, none⟩ (.slice A n c)).alloc (.cells #[.string t, .int .i64 i] T)) ∧ Rdr w0 R V vr vz vl ln st en l ((W.setCell ⟨R, 6, none⟩ (.slice A n c)).alloc (.cells #[.string t, .int .i64 i] T)) ∧
    Blk ((W.setCell ⟨R, 6, none⟩ (.slice A n c)).alloc (.cells #[.string t, .int .i64 i] T)) W.heap.size [.string t, .int .i64 i] := by
  have h1 := Rdr.words ge hb gr hB hW
  have b1 := below_box (W.setCell ⟨R, 6, none⟩ (.slice A n c)) (.cells #[.string t, .int .i64 i] T)
  have nb := Blk.new2 (W.setCell ⟨R, 6, none⟩ (.slice A n c)) (.string t) (.int .i64 i) T
  rw [size_set1] at nb
  exact ⟨(Gr.set W 6 _).trans (Gr.of_below b1), h1.below b1, nb⟩
theorem takeS (w0 : World) (R : Nat) (vr vz vl : Value) (ln st en : Int) (t : ByteArray) (i : Int) (l : List (ByteArray × Int)) (K : FuncId) (caps : Array Value) (v : ByteArray) (x : Int) (eK : ∀ args w, (callFunc K args).run Tryz.prog w = .ok (.enter K args) w) (V W : World) (h : Rdr w0 R V vr vz vl ln st en ((t, i) :: l) W) (RF : ReadF w0 R W K caps t (.string v) x) :
    Calls Tryz.prog 140 #[.pointer (some ⟨R, 0, none⟩), .func (.func K) #[] caps] W (Out w0 (x, ln, i) fun e W' => e = .returned (.string v) ∧ Rdr w0 R V vr vz vl ln st en l W' ∧ Gr R W W') := by
  have FL := Lib.hid (fun x a W h => failP w0 R vr vz vl ln st en l x a V W h)
  have RH := Lib.hid RF
  have ge := h.ge
  have HB := Lib.hid h.hb
  have gr := h.gr
  obtain ⟨A, n, c, hB, hV⟩ := h.at_
  have hW := hV.keep gr
  obtain ⟨b, o, rfl, hne, hlt, x0, x1, rfl, _⟩ := hW.first
  have hW1 : Wd V R (some ⟨b, o + 2, none⟩) l.length (c - 1) l := by
    obtain ⟨b', o', e, _, _, _, _, _, h'⟩ := hV.first
    cases e
    exact h'
  have GR := Lib.hid gr
  obtain ⟨lt, ⟨c0, c1, c2, c3, c4, c5, c6⟩, ⟨f0, f1, f2, f3, f4, f5, f6⟩⟩ := hB.sevenR
  have HBk := Lib.hid hB
  have hcp := hW.fs.cap
  have hmx := hW.fs.max
  have S1 := Lib.hid (took ge HB.out GR.out hB hW1 t i 73)
  have S2 : Hid (c = 1 → Gr R W ((W.setCell ⟨R, 6, none⟩ (.slice (some ⟨b, o, none⟩) l.length 0)).alloc (.cells #[.string t, .int .i64 i] 73)) ∧ Rdr w0 R V vr vz vl ln st en l ((W.setCell ⟨R, 6, none⟩ (.slice (some ⟨b, o, none⟩) l.length 0)).alloc (.cells #[.string t, .int .i64 i] 73)) ∧
      Blk ((W.setCell ⟨R, 6, none⟩ (.slice (some ⟨b, o, none⟩) l.length 0)).alloc (.cells #[.string t, .int .i64 i] 73)) W.heap.size [.string t, .int .i64 i]) := Lib.hid fun hc1 => by
    obtain rfl : l = [] := List.eq_nil_of_length_eq_zero (by omega)
    exact took ge HB.out GR.out hB (hW1.none_left 0 (Nat.zero_le _)) t i _
  unfold maxLen at hmx
  clear h hB hW hW1 hV gr RF
  by_cases hx : x = 0
  · subst hx
    clear FL
    go_enter Tryz.func140, Tryz.ntmps140
    go_wp2_with fail
    all_goals
      first
      | obtain ⟨g1, r1, k1⟩ := S1.out
        refine (RH.out _ g1 (g1.below ge HB.out)).mono ?_
        rintro e w2 ⟨rfl, hb2⟩
        have hb3 := Lib.hid (r1.below hb2)
        have hg3 := Lib.hid (g1.trans (Gr.of_below hb2))
        have sz2 := hb2.size
        clear hb2 g1 r1 k1 S1 S2
        go_wp2
        go_ret
        exact .inr ⟨rfl, rfl, hb3.out, hg3.out⟩
      | obtain ⟨g1, r1, k1⟩ := S2.out (by first | assumption | omega)
        refine (RH.out _ g1 (g1.below ge HB.out)).mono ?_
        rintro e w2 ⟨rfl, hb2⟩
        have hb3 := Lib.hid (r1.below hb2)
        have hg3 := Lib.hid (g1.trans (Gr.of_below hb2))
        have sz2 := hb2.size
        clear hb2 g1 r1 k1 S1 S2
        go_wp2
        go_ret
        exact .inr ⟨rfl, rfl, hb3.out, hg3.out⟩
  · have nx : (x != 0) = true := by rw [bne_iff_ne]; exact hx
    have HX := Lib.hid hx
    clear hx
    go_enter Tryz.func140, Tryz.ntmps140
    go_wp2_with fail
    all_goals
      first
      | obtain ⟨g1, r1, k1⟩ := S1.out
        refine (RH.out _ g1 (g1.below ge HB.out)).mono ?_
        rintro e w2 ⟨rfl, hb2⟩
        have hb3 := Lib.hid (r1.below hb2)
        obtain ⟨_, q0, q1, _, _⟩ := (k1.below hb2).two
        have sz2 := hb2.size
        clear hb2 g1 r1 k1 S1 S2
        go_wp2_with (go_at_call 47; refine (FL.out _ _ _ hb3.out).mono ?_; clear FL; rintro e W' ⟨rfl, hb⟩)
        exact ⟨rfl, .inl ⟨HX.out, rfl, hb⟩⟩
      | obtain ⟨g1, r1, k1⟩ := S2.out (by first | assumption | omega)
        refine (RH.out _ g1 (g1.below ge HB.out)).mono ?_
        rintro e w2 ⟨rfl, hb2⟩
        have hb3 := Lib.hid (r1.below hb2)
        obtain ⟨_, q0, q1, _, _⟩ := (k1.below hb2).two
        have sz2 := hb2.size
        clear hb2 g1 r1 k1 S1 S2
        go_wp2_with (go_at_call 47; refine (FL.out _ _ _ hb3.out).mono ?_; clear FL; rintro e W' ⟨rfl, hb⟩)
        exact ⟨rfl, .inl ⟨HX.out, rfl, hb⟩⟩
theorem takeI (w0 : World) (R : Nat) (vr vz vl : Value) (ln st en : Int) (t : ByteArray) (i : Int) (l : List (ByteArray × Int)) (K : FuncId) (caps : Array Value) (v : Int) (x : Int) (eK : ∀ args w, (callFunc K args).run Tryz.prog w = .ok (.enter K args) w) (V W : World) (h : Rdr w0 R V vr vz vl ln st en ((t, i) :: l) W) (RF : ReadF w0 R W K caps t (.int .i64 v) x) :
    Calls Tryz.prog 136 #[.pointer (some ⟨R, 0, none⟩), .func (.func K) #[] caps] W (Out w0 (x, ln, i) fun e W' => e = .returned (.int .i64 v) ∧ Rdr w0 R V vr vz vl ln st en l W' ∧ Gr R W W') := by
  have FL := Lib.hid (fun x a W h => failP w0 R vr vz vl ln st en l x a V W h)
  have RH := Lib.hid RF
  have ge := h.ge
  have HB := Lib.hid h.hb
  have gr := h.gr
  obtain ⟨A, n, c, hB, hV⟩ := h.at_
  have hW := hV.keep gr
  obtain ⟨b, o, rfl, hne, hlt, x0, x1, rfl, _⟩ := hW.first
  have hW1 : Wd V R (some ⟨b, o + 2, none⟩) l.length (c - 1) l := by
    obtain ⟨b', o', e, _, _, _, _, _, h'⟩ := hV.first
    cases e
    exact h'
  have GR := Lib.hid gr
  obtain ⟨lt, ⟨c0, c1, c2, c3, c4, c5, c6⟩, ⟨f0, f1, f2, f3, f4, f5, f6⟩⟩ := hB.sevenR
  have HBk := Lib.hid hB
  have hcp := hW.fs.cap
  have hmx := hW.fs.max
  have S1 := Lib.hid (took ge HB.out GR.out hB hW1 t i 73)
  have S2 : Hid (c = 1 → Gr R W ((W.setCell ⟨R, 6, none⟩ (.slice (some ⟨b, o, none⟩) l.length 0)).alloc (.cells #[.string t, .int .i64 i] 73)) ∧ Rdr w0 R V vr vz vl ln st en l ((W.setCell ⟨R, 6, none⟩ (.slice (some ⟨b, o, none⟩) l.length 0)).alloc (.cells #[.string t, .int .i64 i] 73)) ∧
      Blk ((W.setCell ⟨R, 6, none⟩ (.slice (some ⟨b, o, none⟩) l.length 0)).alloc (.cells #[.string t, .int .i64 i] 73)) W.heap.size [.string t, .int .i64 i]) := Lib.hid fun hc1 => by
    obtain rfl : l = [] := List.eq_nil_of_length_eq_zero (by omega)
    exact took ge HB.out GR.out hB (hW1.none_left 0 (Nat.zero_le _)) t i _
  unfold maxLen at hmx
  clear h hB hW hW1 hV gr RF
  by_cases hx : x = 0
  · subst hx
    clear FL
    go_enter Tryz.func136, Tryz.ntmps136
    go_wp2_with fail
    all_goals
      first
      | obtain ⟨g1, r1, k1⟩ := S1.out
        refine (RH.out _ g1 (g1.below ge HB.out)).mono ?_
        rintro e w2 ⟨rfl, hb2⟩
        have hb3 := Lib.hid (r1.below hb2)
        have hg3 := Lib.hid (g1.trans (Gr.of_below hb2))
        have sz2 := hb2.size
        clear hb2 g1 r1 k1 S1 S2
        go_wp2
        go_ret
        exact .inr ⟨rfl, rfl, hb3.out, hg3.out⟩
      | obtain ⟨g1, r1, k1⟩ := S2.out (by first | assumption | omega)
        refine (RH.out _ g1 (g1.below ge HB.out)).mono ?_
        rintro e w2 ⟨rfl, hb2⟩
        have hb3 := Lib.hid (r1.below hb2)
        have hg3 := Lib.hid (g1.trans (Gr.of_below hb2))
        have sz2 := hb2.size
        clear hb2 g1 r1 k1 S1 S2
        go_wp2
        go_ret
        exact .inr ⟨rfl, rfl, hb3.out, hg3.out⟩
  · have nx : (x != 0) = true := by rw [bne_iff_ne]; exact hx
    have HX := Lib.hid hx
    clear hx
    go_enter Tryz.func136, Tryz.ntmps136
    go_wp2_with fail
    all_goals
      first
      | obtain ⟨g1, r1, k1⟩ := S1.out
        refine (RH.out _ g1 (g1.below ge HB.out)).mono ?_
        rintro e w2 ⟨rfl, hb2⟩
        have hb3 := Lib.hid (r1.below hb2)
        obtain ⟨_, q0, q1, _, _⟩ := (k1.below hb2).two
        have sz2 := hb2.size
        clear hb2 g1 r1 k1 S1 S2
        go_wp2_with (go_at_call 47; refine (FL.out _ _ _ hb3.out).mono ?_; clear FL; rintro e W' ⟨rfl, hb⟩)
        exact ⟨rfl, .inl ⟨HX.out, rfl, hb⟩⟩
      | obtain ⟨g1, r1, k1⟩ := S2.out (by first | assumption | omega)
        refine (RH.out _ g1 (g1.below ge HB.out)).mono ?_
        rintro e w2 ⟨rfl, hb2⟩
        have hb3 := Lib.hid (r1.below hb2)
        obtain ⟨_, q0, q1, _, _⟩ := (k1.below hb2).two
        have sz2 := hb2.size
        clear hb2 g1 r1 k1 S1 S2
        go_wp2_with (go_at_call 47; refine (FL.out _ _ _ hb3.out).mono ?_; clear FL; rintro e W' ⟨rfl, hb⟩)
        exact ⟨rfl, .inl ⟨HX.out, rfl, hb⟩⟩
end Go.Proofs.YtnkmlfbnfndfpaaGreatDoor
namespace Go.Proofs.YtnkmlfbnfndfpaaGreatDoor
open Go.Shelf Go.RowKit
def ilays287_ren : Go.Shelf.Ren := ⟨fun | 287 => 181 | 321 => 194 | 322 => 195 | n => n, fun | 9 => 9 | 3 => 3 | 53 => 145 | 75 => 116 | 4 => 4 | 167 => 206 | 5 => 5 | 46 => 169 | 37 => 86 | 0 => 0 | 21 => 21 | 80 => 92 | n => n, fun | n => n⟩
theorem ilays287 : Go.Proofs.Lays.n287 Tryz.prog ilays287_ren := {
  mixed := by kernel_rfl
  f287 := Tryz.func181.trans (congrArg some (by kernel_rfl))
  f321 := Tryz.func194.trans (congrArg some (by kernel_rfl))
  f322 := Tryz.func195.trans (congrArg some (by kernel_rfl))
  t0 := Tryz.underlying0
  a0 := Tryz.isAgg0
  z0 := Tryz.sizeOf0
  v0 := Tryz.zeroValue0
  t3 := Tryz.underlying3
  a3 := Tryz.isAgg3
  z3 := Tryz.sizeOf3
  v3 := Tryz.zeroValue3
  t4 := Tryz.underlying4
  a4 := Tryz.isAgg4
  z4 := Tryz.sizeOf4
  v4 := Tryz.zeroValue4
  t5 := Tryz.underlying5
  a5 := Tryz.isAgg5
  z5 := Tryz.sizeOf5
  v5 := Tryz.zeroValue5
  t9 := Tryz.underlying9
  a9 := Tryz.isAgg9
  z9 := Tryz.sizeOf9
  v9 := Tryz.zeroValue9
  t21 := Tryz.underlying21
  a21 := Tryz.isAgg21
  z21 := Tryz.sizeOf21
  v21 := Tryz.zeroValue21
  t37 := Tryz.underlying86
  a37 := Tryz.isAgg86
  z37 := Tryz.sizeOf86
  v37 := Tryz.zeroValue86
  t46 := Tryz.underlying169
  a46 := Tryz.isAgg169
  z46 := Tryz.sizeOf169
  v46 := Tryz.zeroValue169
  t53 := Tryz.underlying145
  a53 := Tryz.isAgg145
  z53 := Tryz.sizeOf145
  v53 := Tryz.zeroValue145
  t75 := Tryz.underlying116
  a75 := Tryz.isAgg116
  z75 := Tryz.sizeOf116
  v75 := Tryz.zeroValue116
  t167 := Tryz.underlying206
  a167 := Tryz.isAgg206
  z167 := Tryz.sizeOf206
  v167 := Tryz.zeroValue206 }
theorem iinternal_strconv_ParseUint_10_at64 (t : ByteArray) (hmax : t.size ≤ 9223372036854775806) (w : World) :
    Calls Tryz.prog 181 #[.string t, .int .i64 10, .int .i64 64] w fun e w' => e = .returned (Lib.uintTupleM 206 18446744073709551615 (Lib.parseUintB 64 t.data.toList)) ∧ (w' = w ∨ w' = Lib.bytesWorld w 5 t) := Any.internal_strconv_ParseUint_10_at64 ilays287 t hmax w
def ilaysC245_ren : Go.Shelf.Ren := ⟨fun | 245 => 182 | 279 => 196 | 280 => 197 | 281 => 198 | 282 => 199 | 316 => 105 | 171 => 85 | 205 => 209 | 243 => 121 | 246 => 153 | 283 => 173 | 284 => 174 | 285 => 175 | 286 => 176 | 129 => 188 | 317 => 187 | 318 => 189 | 319 => 190 | 320 => 191 | 337 => 205 | 338 => 206 | n => n, fun | 9 => 9 | 3 => 3 | 75 => 116 | 167 => 206 | 4 => 4 | 168 => 208 | 210 => 216 | 37 => 86 | 0 => 0 | 127 => 124 | 145 => 222 | 143 => 220 | 2 => 2 | 171 => 182 | 53 => 145 | 5 => 5 | 173 => 185 | 212 => 202 | 51 => 188 | 20 => 20 | 213 => 203 | 46 => 169 | 232 => 218 | 233 => 219 | 80 => 92 | n => n, fun | 15 => 7 | 16 => 8 | 17 => 6 | 18 => 9 | 19 => 10 | n => n⟩
theorem ilaysC245 : Go.Proofs.LaysC.n245 Tryz.prog ilaysC245_ren := {
  mixed := by kernel_rfl
  f129 := Tryz.func188.trans (congrArg some (by kernel_rfl))
  f171 := Tryz.func85.trans (congrArg some (by kernel_rfl))
  f205 := Tryz.func209.trans (congrArg some (by kernel_rfl))
  f243 := Tryz.func121.trans (congrArg some (by kernel_rfl))
  f245 := Tryz.func182.trans (congrArg some (by kernel_rfl))
  f246 := Tryz.func153.trans (congrArg some (by kernel_rfl))
  f279 := Tryz.func196.trans (congrArg some (by kernel_rfl))
  f280 := Tryz.func197.trans (congrArg some (by kernel_rfl))
  f281 := Tryz.func198.trans (congrArg some (by kernel_rfl))
  f282 := Tryz.func199.trans (congrArg some (by kernel_rfl))
  f283 := Tryz.func173.trans (congrArg some (by kernel_rfl))
  f284 := Tryz.func174.trans (congrArg some (by kernel_rfl))
  f285 := Tryz.func175.trans (congrArg some (by kernel_rfl))
  f286 := Tryz.func176.trans (congrArg some (by kernel_rfl))
  f316 := Tryz.func105.trans (congrArg some (by kernel_rfl))
  f317 := Tryz.func187.trans (congrArg some (by kernel_rfl))
  f318 := Tryz.func189.trans (congrArg some (by kernel_rfl))
  f319 := Tryz.func190.trans (congrArg some (by kernel_rfl))
  f320 := Tryz.func191.trans (congrArg some (by kernel_rfl))
  f337 := Tryz.func205.trans (congrArg some (by kernel_rfl))
  f338 := Tryz.func206.trans (congrArg some (by kernel_rfl))
  t0 := Tryz.underlying0
  a0 := Tryz.isAgg0
  z0 := Tryz.sizeOf0
  v0 := Tryz.zeroValue0
  t2 := Tryz.underlying2
  a2 := Tryz.isAgg2
  z2 := Tryz.sizeOf2
  v2 := Tryz.zeroValue2
  t3 := Tryz.underlying3
  a3 := Tryz.isAgg3
  z3 := Tryz.sizeOf3
  v3 := Tryz.zeroValue3
  t4 := Tryz.underlying4
  a4 := Tryz.isAgg4
  z4 := Tryz.sizeOf4
  v4 := Tryz.zeroValue4
  t5 := Tryz.underlying5
  a5 := Tryz.isAgg5
  z5 := Tryz.sizeOf5
  v5 := Tryz.zeroValue5
  t9 := Tryz.underlying9
  a9 := Tryz.isAgg9
  z9 := Tryz.sizeOf9
  v9 := Tryz.zeroValue9
  t20 := Tryz.underlying20
  a20 := Tryz.isAgg20
  z20 := Tryz.sizeOf20
  v20 := Tryz.zeroValue20
  t37 := Tryz.underlying86
  a37 := Tryz.isAgg86
  z37 := Tryz.sizeOf86
  v37 := Tryz.zeroValue86
  t46 := Tryz.underlying169
  a46 := Tryz.isAgg169
  z46 := Tryz.sizeOf169
  v46 := Tryz.zeroValue169
  t51 := Tryz.underlying188
  a51 := Tryz.isAgg188
  z51 := Tryz.sizeOf188
  v51 := Tryz.zeroValue188
  t53 := Tryz.underlying145
  a53 := Tryz.isAgg145
  z53 := Tryz.sizeOf145
  v53 := Tryz.zeroValue145
  t75 := Tryz.underlying116
  a75 := Tryz.isAgg116
  z75 := Tryz.sizeOf116
  v75 := Tryz.zeroValue116
  t127 := Tryz.underlying124
  a127 := Tryz.isAgg124
  z127 := Tryz.sizeOf124
  v127 := Tryz.zeroValue124
  t143 := Tryz.underlying220
  a143 := Tryz.isAgg220
  z143 := Tryz.sizeOf220
  v143 := Tryz.zeroValue220
  t145 := Tryz.underlying222
  a145 := Tryz.isAgg222
  z145 := Tryz.sizeOf222
  v145 := Tryz.zeroValue222
  t167 := Tryz.underlying206
  a167 := Tryz.isAgg206
  z167 := Tryz.sizeOf206
  v167 := Tryz.zeroValue206
  t168 := Tryz.underlying208
  a168 := Tryz.isAgg208
  z168 := Tryz.sizeOf208
  v168 := Tryz.zeroValue208
  t171 := Tryz.underlying182
  a171 := Tryz.isAgg182
  z171 := Tryz.sizeOf182
  v171 := Tryz.zeroValue182
  t173 := Tryz.underlying185
  a173 := Tryz.isAgg185
  z173 := Tryz.sizeOf185
  v173 := Tryz.zeroValue185
  t210 := Tryz.underlying216
  a210 := Tryz.isAgg216
  z210 := Tryz.sizeOf216
  v210 := Tryz.zeroValue216
  t212 := Tryz.underlying202
  a212 := Tryz.isAgg202
  z212 := Tryz.sizeOf202
  v212 := Tryz.zeroValue202
  t213 := Tryz.underlying203
  a213 := Tryz.isAgg203
  z213 := Tryz.sizeOf203
  t232 := Tryz.underlying218
  a232 := Tryz.isAgg218
  z232 := Tryz.sizeOf218
  v232 := Tryz.zeroValue218
  t233 := Tryz.underlying219
  a233 := Tryz.isAgg219
  z233 := Tryz.sizeOf219
  v233 := Tryz.zeroValue219
  g15 := by kernel_rfl
  g16 := by kernel_rfl
  g17 := by kernel_rfl
  g18 := by kernel_rfl
  g19 := by kernel_rfl
  t80 := Tryz.underlying92
  a80 := Tryz.isAgg92
  z80 := Tryz.sizeOf92
  v80 := Tryz.zeroValue92
  i0 := by kernel_rfl
  i2 := by kernel_rfl
  i3 := by kernel_rfl
  i4 := by kernel_rfl
  i5 := by kernel_rfl
  i9 := by kernel_rfl
  i20 := by kernel_rfl
  i37 := by kernel_rfl
  i46 := by kernel_rfl
  i51 := by kernel_rfl
  i53 := by kernel_rfl
  i75 := by kernel_rfl
  i80 := by kernel_rfl
  i127 := by kernel_rfl
  i143 := by kernel_rfl
  i145 := by kernel_rfl
  i167 := by kernel_rfl
  i168 := by kernel_rfl
  i171 := by kernel_rfl
  i173 := by kernel_rfl
  i210 := by kernel_rfl
  i212 := by kernel_rfl
  i232 := by kernel_rfl
  i233 := by kernel_rfl
  m15 := by kernel_rfl
  m16 := by kernel_rfl
  m17 := by kernel_rfl
  m18 := by kernel_rfl
  m19 := by kernel_rfl
  c0 := by kernel_rfl
  c2 := by kernel_rfl
  c3 := by kernel_rfl
  c4 := by kernel_rfl
  c5 := by kernel_rfl
  c9 := by kernel_rfl
  c20 := by kernel_rfl
  c37 := by kernel_rfl
  c46 := by kernel_rfl
  c51 := by kernel_rfl
  c53 := by kernel_rfl
  c75 := by kernel_rfl
  c80 := by kernel_rfl
  c127 := by kernel_rfl
  c143 := by kernel_rfl
  c145 := by kernel_rfl
  c167 := by kernel_rfl
  c168 := by kernel_rfl
  c171 := by kernel_rfl
  c173 := by kernel_rfl
  c210 := by kernel_rfl
  c212 := by kernel_rfl
  c213 := by kernel_rfl
  c232 := by kernel_rfl
  c233 := by kernel_rfl }
theorem istrconv_toError_syntax (fn s : ByteArray) (base bits : Int) (ev : Value) (w : World) (hlim : s.size ≤ 281474976710656) (hv : w.cell? ⟨7, 0, none⟩ = some ev) (hev : ev = .nilIface ∨ ∃ te pe, ev = .iface te pe) :
    Calls Tryz.prog 182 #[.string fn, .string s, .int .i64 base, .int .i64 bits, .iface 206 (.int .i64 2)] w fun e w' => ∃ N, e = .returned (.iface 208 (.pointer (some ⟨N, 0, none⟩))) ∧ w.heap.size ≤ N ∧ w'.heap[N]? = some (.cells #[.string fn, .string s, ev] 216 (0, 0)) ∧ Go.RowKit.Below w.heap.size w w' := Any.strconv_toError_syntax ilaysC245 fn s base bits ev w hlim hv hev
theorem istrconv_toError_range (fn s : ByteArray) (base bits : Int) (ev : Value) (w : World) (hlim : s.size ≤ 281474976710656) (hv : w.cell? ⟨8, 0, none⟩ = some ev) (hev : ev = .nilIface ∨ ∃ te pe, ev = .iface te pe) :
    Calls Tryz.prog 182 #[.string fn, .string s, .int .i64 base, .int .i64 bits, .iface 206 (.int .i64 1)] w fun e w' => ∃ N, e = .returned (.iface 208 (.pointer (some ⟨N, 0, none⟩))) ∧ w.heap.size ≤ N ∧ w'.heap[N]? = some (.cells #[.string fn, .string s, ev] 216 (0, 0)) ∧ Go.RowKit.Below w.heap.size w w' := Any.strconv_toError_range ilaysC245 fn s base bits ev w hlim hv hev
end Go.Proofs.YtnkmlfbnfndfpaaGreatDoor
namespace Go.Proofs.YtnkmlfbnfndfpaaGreatDoor
open Go.RowKit
def yrB (n : Int) : Bool := decide (1 ≤ n ∧ n ≤ 9999)
def svB (n : Int) : Bool := decide (-43200 ≤ n ∧ n ≤ 43200)
theorem rightYearP (n : Int) (w : World) : Calls Tryz.prog 60 #[.int .i64 n] w (SameV w (.bool (yrB n))) := by
  by_cases h1 : 1 ≤ n
  · have d1 : decide (1 ≤ n) = true := decide_eq_true h1
    by_cases h2 : n ≤ 9999
    · have d2 : decide (n ≤ 9999) = true := decide_eq_true h2
      have E := Lib.hid (show yrB n = true from decide_eq_true ⟨h1, h2⟩)
      go_enter Tryz.func60, Tryz.ntmps60
      go_wp2
      go_ret
      exact ⟨by rw [E.out]; rfl, rfl⟩
    · have d2 : decide (n ≤ 9999) = false := decide_eq_false h2
      have E := Lib.hid (show yrB n = false from decide_eq_false fun c => h2 c.2)
      go_enter Tryz.func60, Tryz.ntmps60
      go_wp2
      go_ret
      exact ⟨by rw [E.out]; rfl, rfl⟩
  · have d1 : decide (1 ≤ n) = false := decide_eq_false h1
    have E := Lib.hid (show yrB n = false from decide_eq_false fun c => h1 c.1)
    go_enter Tryz.func60, Tryz.ntmps60
    go_wp2
    go_ret
    exact ⟨by rw [E.out]; rfl, rfl⟩
theorem rightSaveP (n : Int) (w : World) : Calls Tryz.prog 62 #[.int .i64 n] w (SameV w (.bool (svB n))) := by
  by_cases h1 : -43200 ≤ n
  · have d1 : decide (-43200 ≤ n) = true := decide_eq_true h1
    by_cases h2 : n ≤ 43200
    · have d2 : decide (n ≤ 43200) = true := decide_eq_true h2
      have E := Lib.hid (show svB n = true from decide_eq_true ⟨h1, h2⟩)
      go_enter Tryz.func62, Tryz.ntmps62
      go_wp2
      go_ret
      exact ⟨by rw [E.out]; rfl, rfl⟩
    · have d2 : decide (n ≤ 43200) = false := decide_eq_false h2
      have E := Lib.hid (show svB n = false from decide_eq_false fun c => h2 c.2)
      go_enter Tryz.func62, Tryz.ntmps62
      go_wp2
      go_ret
      exact ⟨by rw [E.out]; rfl, rfl⟩
  · have d1 : decide (-43200 ≤ n) = false := decide_eq_false h1
    have E := Lib.hid (show svB n = false from decide_eq_false fun c => h1 c.1)
    go_enter Tryz.func62, Tryz.ntmps62
    go_wp2
    go_ret
    exact ⟨by rw [E.out]; rfl, rfl⟩
theorem letters_made (s : ByteArray) : madeB s 8 [43, 45] = lettersB s := by
  unfold madeB lettersB
  rw [Bool.eq_iff_iff]
  simp only [Bool.and_eq_true, decide_eq_true_eq]
  constructor
  · rintro ⟨⟨a, b⟩, c⟩; exact ⟨c, by omega⟩
  · rintro ⟨c, a⟩; exact ⟨⟨by omega, by omega⟩, c⟩
theorem no_dash {s : ByteArray} (h : ¬ s = ⟨#[45]⟩) : (s.toList == [45]) = false := by
  rw [beq_eq_false_iff_ne]
  intro c
  refine h ?_
  rw [ByteArray.toList_eq] at c
  obtain ⟨a⟩ := s
  have : a = #[45] := by
    apply Array.ext'
    exact c
  rw [this]
def rlB (s : ByteArray) : Bool := decide (¬ s = ⟨#[45]⟩) && lettersB s
theorem rightLetterP (s : ByteArray) (hs : s.size ≤ maxLen) (w : World) : Calls Tryz.prog 63 #[.string s] w (SameV w (.bool (rlB s))) := by
  by_cases h : s = ⟨#[45]⟩
  · subst h
    have E := Lib.hid (show rlB ⟨#[45]⟩ = false from rfl)
    go_enter Tryz.func63, Tryz.ntmps63
    go_wp2
    go_ret
    exact ⟨by rw [E.out]; rfl, rfl⟩
  · have E := Lib.hid (show rlB s = lettersB s by unfold rlB; rw [decide_eq_true h, Bool.true_and])
    have ng := no_dash h
    have nn : ¬ s.toList = [45] := beq_eq_false_iff_ne.1 ng
    have MD := Lib.hid (fun W => (letters_made s ▸ madeP s ⟨#[43, 45]⟩ 8 [43, 45] rfl hs W : Calls Tryz.prog 35 #[.string s, .int .i64 8, .string ⟨#[43, 45]⟩] W (SameV W (.bool (lettersB s)))))
    clear h hs
    generalize lettersB s = b at *
    go_enter Tryz.func63, Tryz.ntmps63
    go_wp2_with (go_at_call 35; refine (MD.out _).mono ?_; clear MD; rintro e w' ⟨rfl, rfl⟩)
    go_ret
    exact ⟨by rw [E.out]; simp, rfl⟩
structure Errs (w : World) : Prop where
  ls : 7 < w.heap.size
  s : ∃ ev, w.cell? ⟨7, 0, none⟩ = some ev ∧ (ev = .nilIface ∨ ∃ te pe, ev = .iface te pe)
  lr : 8 < w.heap.size
  r : ∃ ev, w.cell? ⟨8, 0, none⟩ = some ev ∧ (ev = .nilIface ∨ ∃ te pe, ev = .iface te pe)
theorem Errs.mono {w W : World} (T : Errs w) (h : Below w.heap.size w W) : Errs W :=
  ⟨Nat.lt_of_lt_of_le T.ls h.size, T.s.imp fun _ e => ⟨(h.cell (p := ⟨7, 0, none⟩) T.ls).trans e.1, e.2⟩, Nat.lt_of_lt_of_le T.lr h.size, T.r.imp fun _ e => ⟨(h.cell (p := ⟨8, 0, none⟩) T.lr).trans e.1, e.2⟩⟩
theorem below_bytes (w : World) (t : TypeId) (s : ByteArray) : Below w.heap.size w (Lib.bytesWorld w t s) := ⟨rfl, rfl, rfl, by rw [Lib.bytesWorld_size]; omega, fun k hk => Lib.bytesWorld_at_old w t s k hk⟩
def RetPU (w : World) (r : Lib.NumEnd Nat) (e : Ending) (w' : World) : Prop := match r with
  | .ok n => e = .returned (.tuple #[.int .u64 n, .nilIface]) ∧ Below w.heap.size w w'
  | _ => ∃ (n : Int) (t : TypeId) (v : Value), e = .returned (.tuple #[.int .u64 n, .iface t v]) ∧ Below w.heap.size w w'
theorem pu_ok (t : ByteArray) (n : Nat) (IP : Hid (∀ W, Calls Tryz.prog 181 #[.string t, .int .i64 10, .int .i64 64] W fun e w' => e = .returned (.tuple #[.int .u64 n, .nilIface]) ∧ Below W.heap.size W w')) (w : World) :
    Calls Tryz.prog 164 #[.string t, .int .i64 10, .int .i64 64] w fun e w' => e = .returned (.tuple #[.int .u64 n, .nilIface]) ∧ Below w.heap.size w w' := by
  go_enter Tryz.func164, Tryz.ntmps164
  go_wp2_with (go_at_call 181; refine (IP.out _).mono ?_; clear IP; rintro e w1 ⟨rfl, hb⟩)
  go_wp2
  go_ret2
  exact ⟨rfl, hb⟩
theorem pu_bad (t : ByteArray) (n : Int) (x : Value) (IP : Hid (∀ W, Calls Tryz.prog 181 #[.string t, .int .i64 10, .int .i64 64] W fun e w' => e = .returned (.tuple #[.int .u64 n, .iface 206 x]) ∧ Below W.heap.size W w'))
    (TE : Hid (∀ W, Errs W → Calls Tryz.prog 182 #[.string ⟨#[80, 97, 114, 115, 101, 85, 105, 110, 116]⟩, .string t, .int .i64 10, .int .i64 64, .iface 206 x] W fun e w' => (∃ N : Nat, e = .returned (.iface 208 (.pointer (some ⟨N, 0, none⟩)))) ∧ Below W.heap.size W w')) (w : World) (T : Errs w) :
    Calls Tryz.prog 164 #[.string t, .int .i64 10, .int .i64 64] w fun e w' => ∃ (n : Int) (t : TypeId) (v : Value), e = .returned (.tuple #[.int .u64 n, .iface t v]) ∧ Below w.heap.size w w' := by
  have TH := Lib.hid T
  clear T
  go_enter Tryz.func164, Tryz.ntmps164
  go_wp2_with (go_at_call 181; refine (IP.out _).mono ?_; clear IP; rintro e w1 ⟨rfl, hb⟩; have T1 := Lib.hid (TH.out.mono hb); clear TH)
  go_wp2_with (go_at_call 182; refine (TE.out _ T1.out).mono ?_; clear TE; rintro e w2 ⟨⟨N, rfl⟩, hb2⟩; have hb3 := below_thru hb hb2; clear hb hb2)
  go_wp2
  go_ret2
  exact ⟨n, _, _, rfl, hb3⟩
theorem num_end {α : Type} (r : Lib.NumEnd α) : (∃ n, r = .ok n) ∨ r = Lib.NumEnd.syntax ∨ r = .range := by
  cases r
  · exact .inl ⟨_, rfl⟩
  · exact .inr (.inl rfl)
  · exact .inr (.inr rfl)
theorem puP (t : ByteArray) (ht : t.size ≤ 1000000) (w : World) (T : Errs w) : Calls Tryz.prog 164 #[.string t, .int .i64 10, .int .i64 64] w (RetPU w (Lib.parseUintB 64 t.data.toList)) := by
  have IP := fun W => iinternal_strconv_ParseUint_10_at64 t (by omega) W
  have BW : ∀ (W W' : World), (W' = W ∨ W' = Lib.bytesWorld W 5 t) → Below W.heap.size W W' := fun W W' h => by
    rcases h with rfl | rfl
    · exact Below.refl _ _
    · exact below_bytes _ _ _
  rcases num_end (Lib.parseUintB 64 t.data.toList) with ⟨n, e⟩ | e | e
  · rw [e] at IP ⊢
    exact pu_ok t n (Lib.hid fun W => (IP W).mono fun _ _ h => ⟨h.1, BW _ _ h.2⟩) w
  · rw [e] at IP ⊢
    refine pu_bad t 0 (.int .i64 2) (Lib.hid fun W => (IP W).mono fun _ _ h => ⟨h.1, BW _ _ h.2⟩) (Lib.hid fun W TW => ?_) w T
    obtain ⟨ev, h1, h2⟩ := TW.s
    exact (istrconv_toError_syntax _ t 10 64 ev W (by omega) h1 h2).mono fun _ _ ⟨N, h, _, _, hb⟩ => ⟨⟨N, h⟩, hb⟩
  · rw [e] at IP ⊢
    refine pu_bad t 18446744073709551615 (.int .i64 1) (Lib.hid fun W => (IP W).mono fun _ _ h => ⟨h.1, BW _ _ h.2⟩) (Lib.hid fun W TW => ?_) w T
    obtain ⟨ev, h1, h2⟩ := TW.r
    exact (istrconv_toError_range _ t 10 64 ev W (by omega) h1 h2).mono fun _ _ ⟨N, h, _, _, hb⟩ => ⟨⟨N, h⟩, hb⟩
theorem pu_dig {s : ByteArray} (h4 : s.size ≤ 4) : ∀ (d k : Nat), s.size - k ≤ d → k ≤ s.size → digB s k = true → Lib.parseUintM 18446744073709551615 (digN s k) (s.data.toList.drop k) = if digB s s.size = true then .ok (digN s s.size) else Lib.NumEnd.syntax := by
  intro d
  induction d with
  | zero =>
    intro k hd hk hb
    obtain rfl : k = s.size := by omega
    rw [List.drop_eq_nil_of_le (by rw [Array.length_toList]; exact Nat.le_refl _), if_pos hb]
    rfl
  | succ d ih =>
    intro k hd hk hb
    by_cases h : k < s.size
    · have hl : k < s.data.toList.length := by rw [Array.length_toList]; exact h
      rw [List.drop_eq_getElem_cons hl]
      have ge : s.data.toList[k] = s[k] := rfl
      rw [ge]
      have lt := digN_lt k hb
      have pw : (10 : Nat) ^ k ≤ 10 ^ 4 := Nat.pow_le_pow_right (by decide) (by omega)
      by_cases z : 48 ≤ s[k].toNat ∧ s[k].toNat ≤ 57
      · have hb2 : digB s (k + 1) = true := by rw [digB_succ h, hb, decide_eq_true z]; rfl
        rw [Lib.parseUintM, if_pos z, if_neg (by omega), if_neg (by omega), ← digN_succ h]
        exact ih (k + 1) (by omega) (by omega) hb2
      · have hb2 : digB s (k + 1) = false := by rw [digB_succ h, hb, decide_eq_false z]; rfl
        have off := digB_off (s.size - (k + 1)) hb2
        rw [show k + 1 + (s.size - (k + 1)) = s.size by omega] at off
        rw [Lib.parseUintM, if_neg z, if_neg (by rw [off]; decide)]
    · obtain rfl : k = s.size := by omega
      rw [List.drop_eq_nil_of_le (by rw [Array.length_toList]; exact Nat.le_refl _), if_pos hb]
      rfl
theorem pu_four {s : ByteArray} (h4 : s.size ≤ 4) : Lib.parseUintB 64 s.data.toList = if 0 < s.size ∧ digB s s.size = true then .ok (digN s s.size) else Lib.NumEnd.syntax := by
  unfold Lib.parseUintB
  by_cases h : s.data.toList = []
  · have z : s.size = 0 := by have := congrArg List.length h; rw [Array.length_toList] at this; exact this
    rw [if_pos h, if_neg (by omega)]
  · have z : 0 < s.size := by
      apply Nat.pos_of_ne_zero
      intro c
      exact h (List.eq_nil_of_length_eq_zero (by rw [Array.length_toList]; exact c))
    rw [if_neg h, show (2 : Nat) ^ 64 - 1 = 18446744073709551615 by decide]
    have := pu_dig h4 s.size 0 (by omega) (Nat.zero_le _) rfl
    rw [List.drop_zero] at this
    rw [show (0 : Nat) = digN s 0 from rfl, this]
    by_cases b : digB s s.size = true
    · rw [if_pos b, if_pos ⟨z, b⟩]
    · rw [if_neg b, if_neg (fun c => b c.2)]
def yrRes (s : ByteArray) : Int × Int := (yearN s, if yearN s = 0 then 6 else 0)
theorem yr_long {s : ByteArray} (h : 4 < s.size) : yrRes s = (0, 6) := by
  unfold yrRes
  rw [show yearN s = 0 by unfold yearN; rw [if_pos h]; split <;> rfl, if_pos rfl]
theorem yr_bad {s : ByteArray} (h : ¬ (0 < s.size ∧ digB s s.size = true)) : yrRes s = (0, 6) := by
  have e : yearN s = 0 := by
    unfold yearN
    by_cases b : digB s s.size = true
    · have z : s.size = 0 := by
        apply Classical.byContradiction
        intro c
        exact h ⟨by omega, b⟩
      rw [if_pos b, if_neg (by omega), z]
      rfl
    · rw [if_neg b]
  unfold yrRes
  rw [e, if_pos rfl]
theorem yr_good {s : ByteArray} (h4 : s.size ≤ 4) (b : digB s s.size = true) : yrRes s = if yrB (digN s s.size) = true then ((digN s s.size : Int), 0) else (0, 6) := by
  have e : yearN s = digN s s.size := by unfold yearN; rw [if_pos b, if_neg (by omega)]
  have lt := digN_lt s.size b
  have pw : (10 : Nat) ^ s.size ≤ 10 ^ 4 := Nat.pow_le_pow_right (by decide) h4
  unfold yrRes yrB
  rw [e]
  by_cases z : (digN s s.size : Int) = 0
  · rw [if_pos z, if_neg (by rw [decide_eq_true_eq]; omega), z]
  · rw [if_neg z, if_pos (by rw [decide_eq_true_eq]; omega)]
theorem yr_w_bad (s : ByteArray) (_hs : s.size ≤ 9223372036854775807) (PU : Hid (∀ W, Errs W → Calls Tryz.prog 164 #[.string s, .int .i64 10, .int .i64 64] W fun e w' => ∃ (n : Int) (t : TypeId) (v : Value), e = .returned (.tuple #[.int .u64 n, .iface t v]) ∧ Below W.heap.size W w')) (w : World) (T : Errs w) :
    Calls Tryz.prog 142 #[.string s] w (RetNN w 0 6) := by
  have TH := Lib.hid T
  clear T
  go_enter Tryz.func142, Tryz.ntmps142
  go_wp2_with (go_at_call 164; refine (PU.out _ TH.out).mono ?_; clear PU TH; rintro e w1 ⟨n, t, v, rfl, hb⟩)
  go_wp2
  go_ret2
  exact ⟨rfl, hb⟩
theorem yr_w_long (s : ByteArray) (_hs : s.size ≤ 9223372036854775807) (h4 : 4 < s.size) (n : Nat) (PU : Hid (∀ W, Errs W → Calls Tryz.prog 164 #[.string s, .int .i64 10, .int .i64 64] W fun e w' => e = .returned (.tuple #[.int .u64 n, .nilIface]) ∧ Below W.heap.size W w')) (w : World) (T : Errs w) :
    Calls Tryz.prog 142 #[.string s] w (RetNN w 0 6) := by
  have TH := Lib.hid T
  have d4 : decide (4 < (s.size : Int)) = true := decide_eq_true (by omega)
  clear T h4
  go_enter Tryz.func142, Tryz.ntmps142
  go_wp2_with (go_at_call 164; refine (PU.out _ TH.out).mono ?_; clear PU TH; rintro e w1 ⟨rfl, hb⟩)
  go_wp2
  go_ret2
  exact ⟨rfl, hb⟩
theorem yr_w_good (s : ByteArray) (_hs : s.size ≤ 9223372036854775807) (h4 : ¬ 4 < s.size) (n : Nat) (hn : n < 10000) (b : Bool) (RY : Hid (∀ W, Calls Tryz.prog 60 #[.int .i64 n] W (SameV W (.bool b)))) (PU : Hid (∀ W, Errs W → Calls Tryz.prog 164 #[.string s, .int .i64 10, .int .i64 64] W fun e w' => e = .returned (.tuple #[.int .u64 n, .nilIface]) ∧ Below W.heap.size W w')) (w : World) (T : Errs w) :
    Calls Tryz.prog 142 #[.string s] w (RetNN w (if b = true then (n : Int) else 0) (if b = true then 0 else 6)) := by
  have TH := Lib.hid T
  have d4 : decide (4 < (s.size : Int)) = false := decide_eq_false (by omega)
  clear T h4
  cases b with
  | true =>
    go_enter Tryz.func142, Tryz.ntmps142
    go_wp2_with (first | (go_at_call 164; refine (PU.out _ TH.out).mono ?_; clear PU TH; rintro e w1 ⟨rfl, hb⟩) | (go_at_call 60; refine (RY.out _).mono ?_; clear RY; rintro e w1 ⟨rfl, rfl⟩))
    all_goals go_ret2
    all_goals exact ⟨rfl, hb⟩
  | false =>
    go_enter Tryz.func142, Tryz.ntmps142
    go_wp2_with (first | (go_at_call 164; refine (PU.out _ TH.out).mono ?_; clear PU TH; rintro e w1 ⟨rfl, hb⟩) | (go_at_call 60; refine (RY.out _).mono ?_; clear RY; rintro e w1 ⟨rfl, rfl⟩))
    go_wp2
    go_ret2
    exact ⟨rfl, hb⟩
theorem yearP (s : ByteArray) (hs : s.size ≤ 1000000) (w : World) (T : Errs w) : Calls Tryz.prog 142 #[.string s] w (RetNN w (yrRes s).1 (yrRes s).2) := by
  have PU := fun W TW => puP s hs W TW
  by_cases h4 : 4 < s.size
  · rw [yr_long h4]
    rcases num_end (Lib.parseUintB 64 s.data.toList) with ⟨n, e⟩ | e | e
    · rw [e] at PU; exact yr_w_long s (by omega) h4 n (Lib.hid PU) w T
    · rw [e] at PU; exact yr_w_bad s (by omega) (Lib.hid PU) w T
    · rw [e] at PU; exact yr_w_bad s (by omega) (Lib.hid PU) w T
  · rw [pu_four (by omega)] at PU
    by_cases z : 0 < s.size ∧ digB s s.size = true
    · rw [if_pos z] at PU
      have lt := digN_lt s.size z.2
      have pw : (10 : Nat) ^ s.size ≤ 10 ^ 4 := Nat.pow_le_pow_right (by decide) (by omega)
      have := yr_w_good s (by omega) h4 (digN s s.size) (by omega) (yrB (digN s s.size)) (Lib.hid fun W => rightYearP _ W) (Lib.hid PU) w T
      rw [yr_good (by omega) z.2]
      cases e : yrB (digN s s.size) with
      | true => rw [e] at this; exact this
      | false => rw [e] at this; exact this
    · rw [if_neg z] at PU
      rw [yr_bad z]
      exact yr_w_bad s (by omega) (Lib.hid PU) w T
def KindF (K : FuncId) (t : ByteArray) (b : Bool) : Prop := ∀ W, Calls Tryz.prog K #[.string t] W fun e w' => e = .returned (.bool b) ∧ Below W.heap.size W w'
theorem kind_set {t : ByteArray} (h : t.size ≤ maxLen) : KindF 18 t (setB t) := fun W => (setP t h W).mono fun _ _ ⟨h1, h2⟩ => ⟨h1, h2 ▸ Below.refl _ _⟩
theorem kind_place {t : ByteArray} (h : t.size ≤ maxLen) : KindF 20 t (placeB t) := fun W => placeP t h W
theorem kind_format {t : ByteArray} (h : t.size ≤ maxLen) : KindF 97 t (formatB t) := fun W => (formatP t h W).mono fun _ _ ⟨h1, n, h2⟩ => ⟨h1, h2 ▸ below_drewN (Below.refl _ _) n⟩
theorem kind_letter {t : ByteArray} (h : t.size ≤ maxLen) : KindF 63 t (rlB t) := fun W => (rightLetterP t h W).mono fun _ _ ⟨h1, h2⟩ => ⟨h1, h2 ▸ Below.refl _ _⟩
theorem dash_kind (t : ByteArray) (w : World) : Calls Tryz.prog 145 #[.string t] w (SameV w (.bool (decide (t = dashT)))) := by
  by_cases h : t = ⟨#[45]⟩
  · have E := Lib.hid (show decide (t = dashT) = true from decide_eq_true h)
    subst h
    go_enter Tryz.func145, Tryz.ntmps145
    go_wp2
    go_ret
    exact ⟨by rw [E.out]; rfl, rfl⟩
  · have E := Lib.hid (show decide (t = dashT) = false from decide_eq_false h)
    have ng := no_dash h
    have nn : ¬ t.toList = [45] := beq_eq_false_iff_ne.1 ng
    clear h
    go_enter Tryz.func145, Tryz.ntmps145
    go_wp2
    go_ret
    exact ⟨by rw [E.out]; simp, rfl⟩
theorem kind_dash (t : ByteArray) : KindF 145 t (decide (t = dashT)) := fun W => (dash_kind t W).mono fun _ _ ⟨h1, h2⟩ => ⟨h1, h2 ▸ Below.refl _ _⟩
def e6 (b : Bool) : Int := if b = true then 0 else 6
def t6 (b : Bool) (t : ByteArray) : ByteArray := if b = true then t else ⟨#[]⟩
theorem nameP (K : FuncId) (w : World) : Calls Tryz.prog 141 #[.func (.func K) #[] #[]] w fun e w' => e = .returned (.func (.func 163) #[] #[.pointer (some ⟨w.heap.size, 0, none⟩)]) ∧ w' = w.alloc (.cells #[.func (.func K) #[] #[]] 34) := by
  have hmf : ∀ (fn : Fn) (first cap : Array Value) (w : World), (Instr.makeFunc fn first cap).run Tryz.prog w = .ok (.func fn first cap) w := fun _ _ _ _ => rfl
  go_enter Tryz.func141, Tryz.ntmps141
  go_wp2
  go_ret
  exact ⟨rfl, rfl⟩
theorem name1P (K : FuncId) (eK : ∀ args w, (callFunc K args).run Tryz.prog w = .ok (.enter K args) w) (t : ByteArray) (b : Bool) (KF : KindF K t b) (g : Nat) (w : World) (hg : w.cell? ⟨g, 0, none⟩ = some (.func (.func K) #[] #[])) :
    Calls Tryz.prog 163 #[.string t, .pointer (some ⟨g, 0, none⟩)] w fun e w' => e = .returned (.tuple #[.string (t6 b t), .int .i64 (e6 b)]) ∧ Below w.heap.size w w' := by
  have KH := Lib.hid KF
  clear KF
  cases b with
  | true =>
    go_enter Tryz.func163, Tryz.ntmps163
    go_wp2_with fail
    refine (KH.out _).mono ?_
    rintro e w1 ⟨rfl, hb⟩
    go_wp2
    go_ret2
    exact ⟨rfl, hb⟩
  | false =>
    go_enter Tryz.func163, Tryz.ntmps163
    go_wp2_with fail
    refine (KH.out _).mono ?_
    rintro e w1 ⟨rfl, hb⟩
    go_wp2
    go_ret2
    exact ⟨rfl, hb⟩
theorem lastP (n : Int) (w : World) : Calls Tryz.prog 144 #[.int .i64 n] w fun e w' => e = .returned (.func (.func 166) #[] #[.pointer (some ⟨w.heap.size, 0, none⟩)]) ∧ w' = w.alloc (.cells #[.int .i64 n] 3) := by
  have hmf : ∀ (fn : Fn) (first cap : Array Value) (w : World), (Instr.makeFunc fn first cap).run Tryz.prog w = .ok (.func fn first cap) w := fun _ _ _ _ => rfl
  go_enter Tryz.func144, Tryz.ntmps144
  go_wp2
  go_ret
  exact ⟨rfl, rfl⟩
def lastRes (n : Int) (t : ByteArray) : Int × Int := if t = onlyT then (n, 0) else if t = maxT then (1000000, 0) else yrRes t
theorem not_text {t : ByteArray} {l : List UInt8} (h : ¬ t = ⟨l.toArray⟩) : (t.toList == l) = false ∧ ¬ t.toList = l := by
  have n : ¬ t.toList = l := by
    intro c
    refine h ?_
    rw [ByteArray.toList_eq] at c
    apply ByteArray.ext
    apply Array.ext'
    rw [c]
  exact ⟨beq_eq_false_iff_ne.2 n, n⟩
theorem last1P (n : Int) (t : ByteArray) (ht : t.size ≤ 1000000) (g : Nat) (w : World) (T : Errs w) (hg : w.cell? ⟨g, 0, none⟩ = some (.int .i64 n)) :
    Calls Tryz.prog 166 #[.string t, .pointer (some ⟨g, 0, none⟩)] w (RetNN w (lastRes n t).1 (lastRes n t).2) := by
  by_cases h1 : t = ⟨#[111, 110, 108, 121]⟩
  · have E := Lib.hid (show lastRes n t = (n, 0) from if_pos h1)
    subst h1
    clear T
    go_enter Tryz.func166, Tryz.ntmps166
    go_wp2
    go_ret2
    exact ⟨by rw [E.out]; rfl, Below.refl _ _⟩
  obtain ⟨n1, n2⟩ := not_text (l := [111, 110, 108, 121]) h1
  by_cases h2 : t = ⟨#[109, 97, 120]⟩
  · have E := Lib.hid (show lastRes n t = (1000000, 0) by unfold lastRes; rw [if_neg (show ¬ t = onlyT from h1), if_pos (show t = maxT from h2)])
    subst h2
    clear h1 T
    go_enter Tryz.func166, Tryz.ntmps166
    go_wp2
    go_ret2
    exact ⟨by rw [E.out]; rfl, Below.refl _ _⟩
  obtain ⟨m1, m2⟩ := not_text (l := [109, 97, 120]) h2
  have E := Lib.hid (show lastRes n t = yrRes t by unfold lastRes; rw [if_neg (show ¬ t = onlyT from h1), if_neg (show ¬ t = maxT from h2)])
  have YR := Lib.hid (yearP t ht w T)
  generalize (yrRes t) = p at *
  obtain ⟨pa, pb⟩ := p
  unfold RetNN at YR ⊢
  clear h1 h2 T hg
  go_enter Tryz.func166, Tryz.ntmps166
  go_wp2_with (go_at_call 142; refine YR.out.mono ?_; rintro e w1 ⟨rfl, hb⟩)
  go_wp2
  go_ret2
  exact ⟨by rw [E.out]; rfl, hb⟩
theorem off_sv (s : ByteArray) : offR (spanRes s) = offN s 86400 := by
  unfold offR offN
  cases spanRes s with
  | none => rfl
  | some v =>
    show (if _ then _ else _) = (if _ then _ else _)
    by_cases h : v ≤ -86400 ∨ 86400 ≤ v
    · rw [if_pos h, if_pos (by omega)]
    · rw [if_neg h, if_neg (by omega)]
theorem sv_off (s : ByteArray) : offN s 43200 = if svB (offN s 86400).1 = true then offN s 86400 else (0, 11) := by
  cases hs : spanRes s with
  | none =>
    have a : ∀ m, offN s m = (0, 6) := fun m => by unfold offN; rw [hs]
    rw [a, a]
    rfl
  | some v =>
    have a : ∀ m, offN s m = if v ≤ -86400 ∨ 86400 ≤ v ∨ m < v ∨ v < -m then (0, 11) else (v, 0) := fun m => by unfold offN; rw [hs]
    by_cases h : v ≤ -86400 ∨ 86400 ≤ v
    · rw [a, a, if_pos (c := v ≤ -86400 ∨ 86400 ≤ v ∨ 43200 < v ∨ v < -43200) (by omega), if_pos (c := v ≤ -86400 ∨ 86400 ≤ v ∨ 86400 < v ∨ v < -86400) (by omega)]
      rfl
    · rw [a, a, if_neg (c := v ≤ -86400 ∨ 86400 ≤ v ∨ 86400 < v ∨ v < -86400) (by omega)]
      by_cases k : -43200 ≤ v ∧ v ≤ 43200
      · rw [if_neg (by omega), if_pos (show svB v = true from decide_eq_true k)]
      · rw [if_pos (by omega), if_neg (show ¬ svB v = true by unfold svB; rw [decide_eq_false k]; decide)]
theorem offsetSP (t : ByteArray) (ht : t.size ≤ 1000000) (w : World) : Calls Tryz.prog 137 #[.string t] w (RetNN w (offN t 86400).1 (offN t 86400).2) := by
  have := offsetMP t (by omega) w
  rw [off_sv] at this
  exact this
theorem savingP (t : ByteArray) (ht : t.size ≤ 1000000) (w : World) : Calls Tryz.prog 146 #[.string t] w (RetNN w (offN t 43200).1 (offN t 43200).2) := by
  have OF := Lib.hid (offsetSP t ht w)
  have E := Lib.hid (sv_off t)
  clear ht
  generalize offN t 86400 = p at *
  obtain ⟨pa, pb⟩ := p
  have SV := Lib.hid (rightSaveP pa)
  unfold RetNN at OF ⊢
  dsimp only at OF E
  cases e : svB pa with
  | true =>
    rw [e] at SV E
    clear e
    go_enter Tryz.func146, Tryz.ntmps146
    go_wp2_with (first | (go_at_call 137; refine OF.out.mono ?_; clear OF; rintro e w1 ⟨rfl, hb⟩) | (go_at_call 62; refine (SV.out _).mono ?_; clear SV; rintro e w1 ⟨rfl, rfl⟩))
    go_wp2
    go_ret2
    exact ⟨by rw [E.out]; rfl, hb⟩
  | false =>
    rw [e] at SV E
    clear e
    go_enter Tryz.func146, Tryz.ntmps146
    go_wp2_with (first | (go_at_call 137; refine OF.out.mono ?_; clear OF; rintro e w1 ⟨rfl, hb⟩) | (go_at_call 62; refine (SV.out _).mono ?_; clear SV; rintro e w1 ⟨rfl, rfl⟩))
    go_wp2
    go_ret2
    exact ⟨by rw [E.out]; rfl, hb⟩
def letRes (t : ByteArray) : ByteArray × Int := if t = dashT then (⟨#[]⟩, 0) else (t6 (rlB t) t, e6 (rlB t))
theorem ruleLetterP (t : ByteArray) (ht : t.size ≤ 1000000) (w : World) : Calls Tryz.prog 147 #[.string t] w fun e w' => e = .returned (.tuple #[.string (letRes t).1, .int .i64 (letRes t).2]) ∧ Below w.heap.size w w' := by
  by_cases h : t = ⟨#[45]⟩
  · have E := Lib.hid (show letRes t = (⟨#[]⟩, 0) from if_pos h)
    subst h
    go_enter Tryz.func147, Tryz.ntmps147
    go_wp2
    go_ret2
    exact ⟨by rw [E.out]; rfl, Below.refl _ _⟩
  · have E := Lib.hid (show letRes t = (t6 (rlB t) t, e6 (rlB t)) from if_neg h)
    obtain ⟨n1, n2⟩ := not_text (l := [45]) h
    have NM := Lib.hid (nameP 63 w)
    have N1 := Lib.hid (name1P 63 (enters_of Tryz.func63 (by kernel_rfl) rfl) t (rlB t) (kind_letter (by unfold maxLen; omega)) w.heap.size (w.alloc (.cells #[.func (.func 63) #[] #[]] 34)) (by simp))
    have hB := below_box w (.cells #[.func (.func 63) #[] #[]] 34)
    generalize t6 (rlB t) t = a at *
    generalize e6 (rlB t) = b at *
    clear h ht
    go_enter Tryz.func147, Tryz.ntmps147
    go_wp2_with (go_at_call 141; refine NM.out.mono ?_; clear NM; rintro e w1 ⟨rfl, rfl⟩)
    refine N1.out.mono ?_
    rintro e w2 ⟨rfl, hb⟩
    go_wp2
    go_ret2
    exact ⟨by rw [E.out]; rfl, below_thru hB hb⟩
theorem Blk.thirteen {W : World} {b : Nat} {v0 v1 v2 v3 v4 v5 v6 v7 v8 v9 v10 v11 v12 : Value} (h : Blk W b [v0, v1, v2, v3, v4, v5, v6, v7, v8, v9, v10, v11, v12]) : b < W.heap.size ∧ (W.cell? ⟨b, 0, none⟩ = some v0 ∧ W.cell? ⟨b, 1, none⟩ = some v1 ∧ W.cell? ⟨b, 2, none⟩ = some v2 ∧ W.cell? ⟨b, 3, none⟩ = some v3 ∧ W.cell? ⟨b, 4, none⟩ = some v4 ∧ W.cell? ⟨b, 5, none⟩ = some v5 ∧ W.cell? ⟨b, 6, none⟩ = some v6 ∧ W.cell? ⟨b, 7, none⟩ = some v7 ∧ W.cell? ⟨b, 8, none⟩ = some v8 ∧ W.cell? ⟨b, 9, none⟩ = some v9 ∧ W.cell? ⟨b, 10, none⟩ = some v10 ∧ W.cell? ⟨b, 11, none⟩ = some v11 ∧ W.cell? ⟨b, 12, none⟩ = some v12) ∧ (W.frozen? ⟨b, 0, none⟩ = false ∧ W.frozen? ⟨b, 1, none⟩ = false ∧ W.frozen? ⟨b, 2, none⟩ = false ∧ W.frozen? ⟨b, 3, none⟩ = false ∧ W.frozen? ⟨b, 4, none⟩ = false ∧ W.frozen? ⟨b, 5, none⟩ = false ∧ W.frozen? ⟨b, 6, none⟩ = false ∧ W.frozen? ⟨b, 7, none⟩ = false ∧ W.frozen? ⟨b, 8, none⟩ = false ∧ W.frozen? ⟨b, 9, none⟩ = false ∧ W.frozen? ⟨b, 10, none⟩ = false ∧ W.frozen? ⟨b, 11, none⟩ = false ∧ W.frozen? ⟨b, 12, none⟩ = false) :=
  ⟨h.lt, ⟨h.cs.1, h.cs.2.2.1, h.cs.2.2.2.2.1, h.cs.2.2.2.2.2.2.1, h.cs.2.2.2.2.2.2.2.2.1, h.cs.2.2.2.2.2.2.2.2.2.2.1, h.cs.2.2.2.2.2.2.2.2.2.2.2.2.1, h.cs.2.2.2.2.2.2.2.2.2.2.2.2.2.2.1, h.cs.2.2.2.2.2.2.2.2.2.2.2.2.2.2.2.2.1, h.cs.2.2.2.2.2.2.2.2.2.2.2.2.2.2.2.2.2.2.1, h.cs.2.2.2.2.2.2.2.2.2.2.2.2.2.2.2.2.2.2.2.2.1, h.cs.2.2.2.2.2.2.2.2.2.2.2.2.2.2.2.2.2.2.2.2.2.2.1, h.cs.2.2.2.2.2.2.2.2.2.2.2.2.2.2.2.2.2.2.2.2.2.2.2.2.1⟩, ⟨h.cs.2.1, h.cs.2.2.2.1, h.cs.2.2.2.2.2.1, h.cs.2.2.2.2.2.2.2.1, h.cs.2.2.2.2.2.2.2.2.2.1, h.cs.2.2.2.2.2.2.2.2.2.2.2.1, h.cs.2.2.2.2.2.2.2.2.2.2.2.2.2.1, h.cs.2.2.2.2.2.2.2.2.2.2.2.2.2.2.2.1, h.cs.2.2.2.2.2.2.2.2.2.2.2.2.2.2.2.2.2.1, h.cs.2.2.2.2.2.2.2.2.2.2.2.2.2.2.2.2.2.2.2.1, h.cs.2.2.2.2.2.2.2.2.2.2.2.2.2.2.2.2.2.2.2.2.2.1, h.cs.2.2.2.2.2.2.2.2.2.2.2.2.2.2.2.2.2.2.2.2.2.2.2.1, h.cs.2.2.2.2.2.2.2.2.2.2.2.2.2.2.2.2.2.2.2.2.2.2.2.2.2.1⟩⟩
theorem Gr.more {R : Nat} {A B : World} (h : Gr R A B) (o : Obj) : Gr R A (B.alloc o) := h.trans (Gr.of_below (below_box B o))
theorem Blk.more {W : World} {b : Nat} {vs : List Value} (h : Blk W b vs) (o : Obj) : Blk (W.alloc o) b vs := h.below (below_box W o)
theorem Rdr.of_gr {w0 V W W' : World} {R : Nat} {vr vz vl : Value} {ln st en : Int} {l : List (ByteArray × Int)} {A : Option Addr} {n c : Nat} (ge : w0.heap.size ≤ R) (hb : Below w0.heap.size w0 W) (gr : Gr R V W) (hW : Wd V R A n c l) (g : Gr R W W') (hB : Blk W' R (rdVals vr vz vl ln st en (.slice A n c))) : Rdr w0 R V vr vz vl ln st en l W' :=
  ⟨ge, g.below ge hb, gr.trans g, A, n, c, hB, hW⟩
def eraZ : List Value := [.int .i64 0, .int .i64 0, .int .i64 0, .string ⟨#[]⟩, .string ⟨#[]⟩, .bool false, .int .i64 0, .int .i64 0, .int .i64 0, .int .i64 0, .int .i64 0, .int .i64 0, .int .i64 0]
theorem newE (W : World) (E : TypeId) (o : Obj) : Blk ((W.alloc (.cells #[.int .i64 0, .int .i64 0, .int .i64 0, .string ⟨#[]⟩, .string ⟨#[]⟩, .bool false, .int .i64 0, .int .i64 0, .int .i64 0, .int .i64 0, .int .i64 0, .int .i64 0, .int .i64 0] E)).alloc o) W.heap.size eraZ := by
  refine Blk.more ⟨by simp, ?_⟩ o
  refine ⟨?_, ?_, ?_, ?_, ?_, ?_, ?_, ?_, ?_, ?_, ?_, ?_, ?_, ?_, ?_, ?_, ?_, ?_, ?_, ?_, ?_, ?_, ?_, ?_, ?_, ?_, trivial⟩ <;> simp
theorem Gr.stores {R : Nat} {A B : World} (h : Gr R A B) {b : Nat} (hb : A.heap.size ≤ b) : ∀ (vs : List Value) (i : Nat), Gr R A (setAll B b i vs) := by
  intro vs
  induction vs generalizing B with
  | nil => intro i; exact h
  | cons v r ih => intro i; exact ih (h.store hb i v) (i + 1)
theorem ret_era {Post : Ending → World → Prop} {tm : Array Value} {X : World} {B : Nat} {off : Int} {kind : Int} {save : Int} {rules : ByteArray} {fmt : ByteArray} {til : Bool} {year : Int} {mo : Int} {ki : Int} {wd : Int} {da : Int} {ti : Int} {re : Int} (F : Blk X B [.int .i64 off, .int .i64 kind, .int .i64 save, .string rules, .string fmt, .bool til, .int .i64 year, .int .i64 mo, .int .i64 ki, .int .i64 wd, .int .i64 da, .int .i64 ti, .int .i64 re]) (ht : tm[4]?.getD undef = .pointer (some ⟨B, 0, none⟩)) (hp : Post (.returned (.agg #[.int .i64 off, .int .i64 kind, .int .i64 save, .string rules, .string fmt, .bool til, .int .i64 year, .int .i64 mo, .int .i64 ki, .int .i64 wd, .int .i64 da, .int .i64 ti, .int .i64 re])) X) :
    bodyPost Tryz.prog Tryz.f138 Post Exit.ret { tmps := tm, defers := [] } X := by
  obtain ⟨_, ⟨e0, e1, e2, e3, e4, e5, e6, e7, e8, e9, e10, e11, e12⟩, _⟩ := F.thirteen
  refine bodyPost_ret (v := .agg #[.int .i64 off, .int .i64 kind, .int .i64 save, .string rules, .string fmt, .bool til, .int .i64 year, .int .i64 mo, .int .i64 ki, .int .i64 wd, .int .i64 da, .int .i64 ti, .int .i64 re]) ?_ rfl hp
  simp [results, Tryz.results138, go_sem, ht, e0, e1, e2, e3, e4, e5, e6, e7, e8, e9, e10, e11, e12]
theorem takeE (w0 : World) (R : Nat) (vr vz vl : Value) (ln st en : Int) (t : ByteArray) (i : Int) (l : List (ByteArray × Int)) (K : FuncId) (caps : Array Value) (off : Int) (kind : Int) (save : Int) (rules : ByteArray) (fmt : ByteArray) (til : Bool) (year : Int) (mo : Int) (ki : Int) (wd : Int) (da : Int) (ti : Int) (re : Int) (x : Int) (eK : ∀ args w, (callFunc K args).run Tryz.prog w = .ok (.enter K args) w) (V W : World) (h : Rdr w0 R V vr vz vl ln st en ((t, i) :: l) W) (RF : ReadF w0 R W K caps t (.agg #[.int .i64 off, .int .i64 kind, .int .i64 save, .string rules, .string fmt, .bool til, .int .i64 year, .int .i64 mo, .int .i64 ki, .int .i64 wd, .int .i64 da, .int .i64 ti, .int .i64 re]) x) :
    Calls Tryz.prog 138 #[.pointer (some ⟨R, 0, none⟩), .func (.func K) #[] caps] W (Out w0 (x, ln, i) fun e W' => e = .returned (.agg #[.int .i64 off, .int .i64 kind, .int .i64 save, .string rules, .string fmt, .bool til, .int .i64 year, .int .i64 mo, .int .i64 ki, .int .i64 wd, .int .i64 da, .int .i64 ti, .int .i64 re]) ∧ Rdr w0 R V vr vz vl ln st en l W' ∧ Gr R W W') := by
  have FL := Lib.hid (fun x a W h => failP w0 R vr vz vl ln st en l x a V W h)
  have RH := Lib.hid RF
  have ge := h.ge
  have HB := Lib.hid h.hb
  have gr := h.gr
  obtain ⟨A, n, c, hB, hV⟩ := h.at_
  have hW := hV.keep gr
  obtain ⟨b, o, rfl, hne, hlt, x0, x1, rfl, _⟩ := hW.first
  have hW1 : Wd V R (some ⟨b, o + 2, none⟩) l.length (c - 1) l := by
    obtain ⟨b', o', e, _, _, _, _, _, h'⟩ := hV.first
    cases e
    exact h'
  have GR := Lib.hid gr
  obtain ⟨lt, ⟨c0, c1, c2, c3, c4, c5, c6⟩, ⟨f0, f1, f2, f3, f4, f5, f6⟩⟩ := hB.sevenR
  have hcp := hW.fs.cap
  have hmx := hW.fs.max
  have S1 : Hid (Wd V R (some ⟨b, o + 2, none⟩) l.length (c - 1) l ∧ Blk (W.setCell ⟨R, 6, none⟩ (.slice (some ⟨b, o + 2, none⟩) l.length (c - 1))) R (rdVals vr vz vl ln st en (.slice (some ⟨b, o + 2, none⟩) l.length (c - 1)))) := Lib.hid ⟨hW1, hB.words _⟩
  have S2 : Hid (c = 1 → Wd V R (some ⟨b, o, none⟩) l.length 0 l ∧ Blk (W.setCell ⟨R, 6, none⟩ (.slice (some ⟨b, o, none⟩) l.length 0)) R (rdVals vr vz vl ln st en (.slice (some ⟨b, o, none⟩) l.length 0))) := Lib.hid fun hc1 => by
    obtain rfl : l = [] := List.eq_nil_of_length_eq_zero (by omega)
    exact ⟨hW1.none_left 0 (Nat.zero_le _), hB.words _⟩
  unfold maxLen at hmx
  clear h hB hW hW1 hV gr RF
  by_cases hx : x = 0
  · subst hx
    clear FL
    go_enter Tryz.func138, Tryz.ntmps138
    go_wp2_with fail
    all_goals
      first
      | obtain ⟨hw, hk⟩ := S1.out
        have kE := newE (W.setCell ⟨R, 6, none⟩ (.slice (some ⟨b, o + 2, none⟩) l.length (c - 1))) 52 (.cells #[.string t, .int .i64 i] 73)
        have kW := Blk.new2 ((W.setCell ⟨R, 6, none⟩ (.slice (some ⟨b, o + 2, none⟩) l.length (c - 1))).alloc (.cells #[.int .i64 0, .int .i64 0, .int .i64 0, .string ⟨#[]⟩, .string ⟨#[]⟩, .bool false, .int .i64 0, .int .i64 0, .int .i64 0, .int .i64 0, .int .i64 0, .int .i64 0, .int .i64 0] 52)) (.string t) (.int .i64 i) 73
        rw [size_set1] at kE
        rw [World.size_alloc, size_set1] at kW
        have kR := (hk.more (.cells #[.int .i64 0, .int .i64 0, .int .i64 0, .string ⟨#[]⟩, .string ⟨#[]⟩, .bool false, .int .i64 0, .int .i64 0, .int .i64 0, .int .i64 0, .int .i64 0, .int .i64 0, .int .i64 0] 52)).more (.cells #[.string t, .int .i64 i] 73)
        have g1 := (((Gr.set (R := R) W 6 (.slice (some ⟨b, o + 2, none⟩) l.length (c - 1))).more (.cells #[.int .i64 0, .int .i64 0, .int .i64 0, .string ⟨#[]⟩, .string ⟨#[]⟩, .bool false, .int .i64 0, .int .i64 0, .int .i64 0, .int .i64 0, .int .i64 0, .int .i64 0, .int .i64 0] 52)).more (.cells #[.string t, .int .i64 i] 73))
        refine (RH.out _ g1 (g1.below ge HB.out)).mono ?_
        rintro e w2 ⟨rfl, hb2⟩
        replace kE := kE.below hb2
        replace kR := kR.below hb2
        replace kW := kW.below hb2
        have hg3 := Lib.hid (g1.trans (Gr.of_below hb2))
        have sz2 := hb2.size
        simp only [World.size_alloc, size_set1] at sz2
        clear hb2 g1 hk
        obtain ⟨_, ⟨e0, e1, e2, e3, e4, e5, e6, e7, e8, e9, e10, e11, e12⟩, ⟨z0, z1, z2, z3, z4, z5, z6, z7, z8, z9, z10, z11, z12⟩⟩ := kE.thirteen
        have KR := Lib.hid kR
        have HW := Lib.hid hw
        clear kW kR hw S1 S2
        go_wp2
        have F := (kE.self [.int .i64 off, .int .i64 kind, .int .i64 save, .string rules, .string fmt, .bool til, .int .i64 year, .int .i64 mo, .int .i64 ki, .int .i64 wd, .int .i64 da, .int .i64 ti, .int .i64 re] rfl).more (.cells #[.int .i64 off, .int .i64 kind, .int .i64 save, .string rules, .string fmt, .bool til, .int .i64 year, .int .i64 mo, .int .i64 ki, .int .i64 wd, .int .i64 da, .int .i64 ti, .int .i64 re] 52)
        have G := (Gr.stores hg3.out (Nat.le_refl _) [.int .i64 off, .int .i64 kind, .int .i64 save, .string rules, .string fmt, .bool til, .int .i64 year, .int .i64 mo, .int .i64 ki, .int .i64 wd, .int .i64 da, .int .i64 ti, .int .i64 re] 0).more (.cells #[.int .i64 off, .int .i64 kind, .int .i64 save, .string rules, .string fmt, .bool til, .int .i64 year, .int .i64 mo, .int .i64 ki, .int .i64 wd, .int .i64 da, .int .i64 ti, .int .i64 re] 52)
        have KF := (KR.out.farAll (b' := W.heap.size) (by omega) [.int .i64 off, .int .i64 kind, .int .i64 save, .string rules, .string fmt, .bool til, .int .i64 year, .int .i64 mo, .int .i64 ki, .int .i64 wd, .int .i64 da, .int .i64 ti, .int .i64 re] 0).more (.cells #[.int .i64 off, .int .i64 kind, .int .i64 save, .string rules, .string fmt, .bool til, .int .i64 year, .int .i64 mo, .int .i64 ki, .int .i64 wd, .int .i64 da, .int .i64 ti, .int .i64 re] 52)
        exact ret_era F rfl (.inr ⟨rfl, rfl, Rdr.of_gr ge HB.out GR.out HW.out G KF, G⟩)
      | obtain ⟨hw, hk⟩ := S2.out (by first | assumption | omega)
        have kE := newE (W.setCell ⟨R, 6, none⟩ (.slice (some ⟨b, o, none⟩) l.length 0)) 52 (.cells #[.string t, .int .i64 i] 73)
        have kW := Blk.new2 ((W.setCell ⟨R, 6, none⟩ (.slice (some ⟨b, o, none⟩) l.length 0)).alloc (.cells #[.int .i64 0, .int .i64 0, .int .i64 0, .string ⟨#[]⟩, .string ⟨#[]⟩, .bool false, .int .i64 0, .int .i64 0, .int .i64 0, .int .i64 0, .int .i64 0, .int .i64 0, .int .i64 0] 52)) (.string t) (.int .i64 i) 73
        rw [size_set1] at kE
        rw [World.size_alloc, size_set1] at kW
        have kR := (hk.more (.cells #[.int .i64 0, .int .i64 0, .int .i64 0, .string ⟨#[]⟩, .string ⟨#[]⟩, .bool false, .int .i64 0, .int .i64 0, .int .i64 0, .int .i64 0, .int .i64 0, .int .i64 0, .int .i64 0] 52)).more (.cells #[.string t, .int .i64 i] 73)
        have g1 := (((Gr.set (R := R) W 6 (.slice (some ⟨b, o, none⟩) l.length 0)).more (.cells #[.int .i64 0, .int .i64 0, .int .i64 0, .string ⟨#[]⟩, .string ⟨#[]⟩, .bool false, .int .i64 0, .int .i64 0, .int .i64 0, .int .i64 0, .int .i64 0, .int .i64 0, .int .i64 0] 52)).more (.cells #[.string t, .int .i64 i] 73))
        refine (RH.out _ g1 (g1.below ge HB.out)).mono ?_
        rintro e w2 ⟨rfl, hb2⟩
        replace kE := kE.below hb2
        replace kR := kR.below hb2
        replace kW := kW.below hb2
        have hg3 := Lib.hid (g1.trans (Gr.of_below hb2))
        have sz2 := hb2.size
        simp only [World.size_alloc, size_set1] at sz2
        clear hb2 g1 hk
        obtain ⟨_, ⟨e0, e1, e2, e3, e4, e5, e6, e7, e8, e9, e10, e11, e12⟩, ⟨z0, z1, z2, z3, z4, z5, z6, z7, z8, z9, z10, z11, z12⟩⟩ := kE.thirteen
        have KR := Lib.hid kR
        have HW := Lib.hid hw
        clear kW kR hw S1 S2
        go_wp2
        have F := (kE.self [.int .i64 off, .int .i64 kind, .int .i64 save, .string rules, .string fmt, .bool til, .int .i64 year, .int .i64 mo, .int .i64 ki, .int .i64 wd, .int .i64 da, .int .i64 ti, .int .i64 re] rfl).more (.cells #[.int .i64 off, .int .i64 kind, .int .i64 save, .string rules, .string fmt, .bool til, .int .i64 year, .int .i64 mo, .int .i64 ki, .int .i64 wd, .int .i64 da, .int .i64 ti, .int .i64 re] 52)
        have G := (Gr.stores hg3.out (Nat.le_refl _) [.int .i64 off, .int .i64 kind, .int .i64 save, .string rules, .string fmt, .bool til, .int .i64 year, .int .i64 mo, .int .i64 ki, .int .i64 wd, .int .i64 da, .int .i64 ti, .int .i64 re] 0).more (.cells #[.int .i64 off, .int .i64 kind, .int .i64 save, .string rules, .string fmt, .bool til, .int .i64 year, .int .i64 mo, .int .i64 ki, .int .i64 wd, .int .i64 da, .int .i64 ti, .int .i64 re] 52)
        have KF := (KR.out.farAll (b' := W.heap.size) (by omega) [.int .i64 off, .int .i64 kind, .int .i64 save, .string rules, .string fmt, .bool til, .int .i64 year, .int .i64 mo, .int .i64 ki, .int .i64 wd, .int .i64 da, .int .i64 ti, .int .i64 re] 0).more (.cells #[.int .i64 off, .int .i64 kind, .int .i64 save, .string rules, .string fmt, .bool til, .int .i64 year, .int .i64 mo, .int .i64 ki, .int .i64 wd, .int .i64 da, .int .i64 ti, .int .i64 re] 52)
        exact ret_era F rfl (.inr ⟨rfl, rfl, Rdr.of_gr ge HB.out GR.out HW.out G KF, G⟩)
  · have nx : (x != 0) = true := by rw [bne_iff_ne]; exact hx
    have HX := Lib.hid hx
    clear hx
    go_enter Tryz.func138, Tryz.ntmps138
    go_wp2_with fail
    all_goals
      first
      | obtain ⟨hw, hk⟩ := S1.out
        have kE := newE (W.setCell ⟨R, 6, none⟩ (.slice (some ⟨b, o + 2, none⟩) l.length (c - 1))) 52 (.cells #[.string t, .int .i64 i] 73)
        have kW := Blk.new2 ((W.setCell ⟨R, 6, none⟩ (.slice (some ⟨b, o + 2, none⟩) l.length (c - 1))).alloc (.cells #[.int .i64 0, .int .i64 0, .int .i64 0, .string ⟨#[]⟩, .string ⟨#[]⟩, .bool false, .int .i64 0, .int .i64 0, .int .i64 0, .int .i64 0, .int .i64 0, .int .i64 0, .int .i64 0] 52)) (.string t) (.int .i64 i) 73
        rw [size_set1] at kE
        rw [World.size_alloc, size_set1] at kW
        have kR := (hk.more (.cells #[.int .i64 0, .int .i64 0, .int .i64 0, .string ⟨#[]⟩, .string ⟨#[]⟩, .bool false, .int .i64 0, .int .i64 0, .int .i64 0, .int .i64 0, .int .i64 0, .int .i64 0, .int .i64 0] 52)).more (.cells #[.string t, .int .i64 i] 73)
        have g1 := (((Gr.set (R := R) W 6 (.slice (some ⟨b, o + 2, none⟩) l.length (c - 1))).more (.cells #[.int .i64 0, .int .i64 0, .int .i64 0, .string ⟨#[]⟩, .string ⟨#[]⟩, .bool false, .int .i64 0, .int .i64 0, .int .i64 0, .int .i64 0, .int .i64 0, .int .i64 0, .int .i64 0] 52)).more (.cells #[.string t, .int .i64 i] 73))
        refine (RH.out _ g1 (g1.below ge HB.out)).mono ?_
        rintro e w2 ⟨rfl, hb2⟩
        replace kE := kE.below hb2
        replace kR := kR.below hb2
        replace kW := kW.below hb2
        have hg3 := Lib.hid (g1.trans (Gr.of_below hb2))
        have sz2 := hb2.size
        simp only [World.size_alloc, size_set1] at sz2
        clear hb2 g1 hk
        obtain ⟨_, q0, q1, _, _⟩ := kW.two
        have KR := Lib.hid kR
        have HW := Lib.hid hw
        clear kW kE kR hw S1 S2
        go_wp2_with (go_at_call 47; refine (FL.out _ _ _ ((Rdr.of_gr ge HB.out GR.out HW.out hg3.out KR.out).below (below_box _ _))).mono ?_; clear FL; rintro e W' ⟨rfl, hb⟩)
        exact ⟨rfl, .inl ⟨HX.out, rfl, hb⟩⟩
      | obtain ⟨hw, hk⟩ := S2.out (by first | assumption | omega)
        have kE := newE (W.setCell ⟨R, 6, none⟩ (.slice (some ⟨b, o, none⟩) l.length 0)) 52 (.cells #[.string t, .int .i64 i] 73)
        have kW := Blk.new2 ((W.setCell ⟨R, 6, none⟩ (.slice (some ⟨b, o, none⟩) l.length 0)).alloc (.cells #[.int .i64 0, .int .i64 0, .int .i64 0, .string ⟨#[]⟩, .string ⟨#[]⟩, .bool false, .int .i64 0, .int .i64 0, .int .i64 0, .int .i64 0, .int .i64 0, .int .i64 0, .int .i64 0] 52)) (.string t) (.int .i64 i) 73
        rw [size_set1] at kE
        rw [World.size_alloc, size_set1] at kW
        have kR := (hk.more (.cells #[.int .i64 0, .int .i64 0, .int .i64 0, .string ⟨#[]⟩, .string ⟨#[]⟩, .bool false, .int .i64 0, .int .i64 0, .int .i64 0, .int .i64 0, .int .i64 0, .int .i64 0, .int .i64 0] 52)).more (.cells #[.string t, .int .i64 i] 73)
        have g1 := (((Gr.set (R := R) W 6 (.slice (some ⟨b, o, none⟩) l.length 0)).more (.cells #[.int .i64 0, .int .i64 0, .int .i64 0, .string ⟨#[]⟩, .string ⟨#[]⟩, .bool false, .int .i64 0, .int .i64 0, .int .i64 0, .int .i64 0, .int .i64 0, .int .i64 0, .int .i64 0] 52)).more (.cells #[.string t, .int .i64 i] 73))
        refine (RH.out _ g1 (g1.below ge HB.out)).mono ?_
        rintro e w2 ⟨rfl, hb2⟩
        replace kE := kE.below hb2
        replace kR := kR.below hb2
        replace kW := kW.below hb2
        have hg3 := Lib.hid (g1.trans (Gr.of_below hb2))
        have sz2 := hb2.size
        simp only [World.size_alloc, size_set1] at sz2
        clear hb2 g1 hk
        obtain ⟨_, q0, q1, _, _⟩ := kW.two
        have KR := Lib.hid kR
        have HW := Lib.hid hw
        clear kW kE kR hw S1 S2
        go_wp2_with (go_at_call 47; refine (FL.out _ _ _ ((Rdr.of_gr ge HB.out GR.out HW.out hg3.out KR.out).below (below_box _ _))).mono ?_; clear FL; rintro e W' ⟨rfl, hb⟩)
        exact ⟨rfl, .inl ⟨HX.out, rfl, hb⟩⟩
def esVals (k s : Int) (r : ByteArray) : List Value := [.int .i64 0, .int .i64 k, .int .i64 s, .string r, .string ⟨#[]⟩, .bool false, .int .i64 0, .int .i64 0, .int .i64 0, .int .i64 0, .int .i64 0, .int .i64 0, .int .i64 0]
def esAgg (k s : Int) (r : ByteArray) : Value := .agg #[.int .i64 0, .int .i64 k, .int .i64 s, .string r, .string ⟨#[]⟩, .bool false, .int .i64 0, .int .i64 0, .int .i64 0, .int .i64 0, .int .i64 0, .int .i64 0, .int .i64 0]
def esRes (t : ByteArray) : Int × Int × ByteArray × Int := if t = dashT then (0, 0, ⟨#[]⟩, 0) else if begunB t = true then (2, 0, t6 (setB t) t, e6 (setB t)) else (1, (offN t 43200).1, ⟨#[]⟩, (offN t 43200).2)
theorem ret_es {Post : Ending → World → Prop} {tm : Array Value} {X : World} {B : Nat} {k s x : Int} {r : ByteArray} (F : Blk X B (esVals k s r)) (ht : tm[2]?.getD undef = .pointer (some ⟨B, 0, none⟩)) (hx : tm[3]?.getD undef = .int .i64 x) (hp : Post (.returned (.tuple #[esAgg k s r, .int .i64 x])) X) :
    bodyPost Tryz.prog Tryz.f139 Post Exit.ret { tmps := tm, defers := [] } X := by
  obtain ⟨_, ⟨e0, e1, e2, e3, e4, e5, e6, e7, e8, e9, e10, e11, e12⟩, _⟩ := Blk.thirteen F
  refine bodyPost_ret (v := .tuple #[esAgg k s r, .int .i64 x]) ?_ rfl hp
  simp [esAgg, results, Tryz.results139, go_sem, ht, hx, e0, e1, e2, e3, e4, e5, e6, e7, e8, e9, e10, e11, e12]
theorem newEra (W : World) (E : TypeId) (k s : Int) (r : ByteArray) : Blk (W.alloc (.cells #[.int .i64 0, .int .i64 k, .int .i64 s, .string r, .string ⟨#[]⟩, .bool false, .int .i64 0, .int .i64 0, .int .i64 0, .int .i64 0, .int .i64 0, .int .i64 0, .int .i64 0] E)) W.heap.size (esVals k s r) := by
  refine ⟨by simp, ?_⟩
  refine ⟨?_, ?_, ?_, ?_, ?_, ?_, ?_, ?_, ?_, ?_, ?_, ?_, ?_, ?_, ?_, ?_, ?_, ?_, ?_, ?_, ?_, ?_, ?_, ?_, ?_, ?_, trivial⟩ <;> simp
theorem below_all {w W : World} (h : Below w.heap.size w W) {b : Nat} (hb : w.heap.size ≤ b) : ∀ (vs : List Value) (i : Nat), Below w.heap.size w (setAll W b i vs) := by
  intro vs
  induction vs generalizing W with
  | nil => intro i; exact h
  | cons v r ih => intro i; exact ih (h.setCell (p := ⟨b, i, none⟩) hb v) (i + 1)
def RetES (w : World) (p : Int × Int × ByteArray × Int) (e : Ending) (w' : World) : Prop := e = .returned (.tuple #[esAgg p.1 p.2.1 p.2.2.1, .int .i64 p.2.2.2]) ∧ Below w.heap.size w w'
theorem es_dash (w : World) : Calls Tryz.prog 139 #[.string ⟨#[45]⟩] w (RetES w (0, 0, ⟨#[]⟩, 0)) := by
  go_enter Tryz.func139, Tryz.ntmps139
  go_wp2
  exact ret_es (newEra w _ 0 0 ⟨#[]⟩) rfl rfl ⟨rfl, below_box _ _⟩
theorem es_rules (t : ByteArray) (n1 : (t.toList == [45]) = false) (_n2 : ¬ t.toList = [45]) (u : ByteArray) (x : Int) (BG : Hid (∀ W, Calls Tryz.prog 36 #[.string t] W (SameV W (.bool true))))
    (N1 : Hid (∀ (g : Nat) (W : World), W.cell? ⟨g, 0, none⟩ = some (.func (.func 18) #[] #[]) → Calls Tryz.prog 163 #[.string t, .pointer (some ⟨g, 0, none⟩)] W fun e w' => e = .returned (.tuple #[.string u, .int .i64 x]) ∧ Below W.heap.size W w')) (w : World) : Calls Tryz.prog 139 #[.string t] w (RetES w (2, 0, u, x)) := by
  have NM := Lib.hid (nameP 18)
  have k0 := newEra w 52 0 0 ⟨#[]⟩
  go_enter Tryz.func139, Tryz.ntmps139
  go_wp2_with (first | (go_at_call 36; refine (BG.out _).mono ?_; clear BG; rintro e w1 ⟨rfl, rfl⟩) | (go_at_call 141; refine (NM.out _).mono ?_; clear NM; rintro e w1 ⟨rfl, rfl⟩))
  refine (N1.out _ _ (by simp)).mono ?_
  rintro e w2 ⟨rfl, hb⟩
  have hb3 := below_thru (below_thru (below_box w (.cells #[.int .i64 0, .int .i64 0, .int .i64 0, .string ⟨#[]⟩, .string ⟨#[]⟩, .bool false, .int .i64 0, .int .i64 0, .int .i64 0, .int .i64 0, .int .i64 0, .int .i64 0, .int .i64 0] 52)) (below_box _ (.cells #[.func (.func 18) #[] #[]] 34))) hb
  have k1 := (k0.more (.cells #[.func (.func 18) #[] #[]] 34)).below hb
  have sz2 := hb3.size
  have KH := Lib.hid k1
  obtain ⟨_, ⟨e0, e1, e2, e3, e4, e5, e6, e7, e8, e9, e10, e11, e12⟩, ⟨z0, z1, z2, z3, z4, z5, z6, z7, z8, z9, z10, z11, z12⟩⟩ := Blk.thirteen k1
  clear hb k0 k1
  go_wp2
  exact ret_es (KH.out.self (esVals 2 0 u) rfl) rfl rfl ⟨rfl, below_all hb3 (Nat.le_refl _) (esVals 2 0 u) 0⟩
theorem es_save (t : ByteArray) (n1 : (t.toList == [45]) = false) (_n2 : ¬ t.toList = [45]) (v x : Int) (BG : Hid (∀ W, Calls Tryz.prog 36 #[.string t] W (SameV W (.bool false))))
    (SV : Hid (∀ W, Calls Tryz.prog 146 #[.string t] W (RetNN W v x))) (w : World) : Calls Tryz.prog 139 #[.string t] w (RetES w (1, v, ⟨#[]⟩, x)) := by
  have k0 := newEra w 52 0 0 ⟨#[]⟩
  go_enter Tryz.func139, Tryz.ntmps139
  go_wp2_with (first | (go_at_call 36; refine (BG.out _).mono ?_; clear BG; rintro e w1 ⟨rfl, rfl⟩) | (go_at_call 146; refine (SV.out _).mono ?_; clear SV; rintro e w2 ⟨rfl, hb⟩; have hb3 := below_thru (below_box w (.cells #[.int .i64 0, .int .i64 0, .int .i64 0, .string ⟨#[]⟩, .string ⟨#[]⟩, .bool false, .int .i64 0, .int .i64 0, .int .i64 0, .int .i64 0, .int .i64 0, .int .i64 0, .int .i64 0] 52)) hb; have k1 := k0.below hb; have sz2 := hb3.size; have KH := Lib.hid k1; obtain ⟨_, ⟨e0, e1, e2, e3, e4, e5, e6, e7, e8, e9, e10, e11, e12⟩, ⟨z0, z1, z2, z3, z4, z5, z6, z7, z8, z9, z10, z11, z12⟩⟩ := Blk.thirteen k1; clear hb k0 k1))
  go_wp2
  exact ret_es (KH.out.self (esVals 1 v ⟨#[]⟩) rfl) rfl rfl ⟨rfl, below_all hb3 (Nat.le_refl _) (esVals 1 v ⟨#[]⟩) 0⟩
theorem eraSavingP (t : ByteArray) (ht : t.size ≤ 1000000) (w : World) : Calls Tryz.prog 139 #[.string t] w (RetES w (esRes t)) := by
  unfold esRes
  by_cases h : t = dashT
  · rw [if_pos h, h]
    exact es_dash w
  rw [if_neg h]
  obtain ⟨n1, n2⟩ := not_text (l := [45]) h
  have BG := fun W => begunP t (by unfold maxLen; omega) W
  cases e : begunB t with
  | true =>
    rw [e] at BG
    rw [if_pos rfl]
    exact es_rules t n1 n2 _ _ (Lib.hid BG) (Lib.hid fun g W hg => name1P _ (enters_of Tryz.func18 (by kernel_rfl) rfl) t (setB t) (kind_set (by unfold maxLen; omega)) g W hg) w
  | false =>
    rw [e] at BG
    rw [if_neg (by decide)]
    exact es_save t n1 n2 _ _ (Lib.hid BG) (Lib.hid fun W => savingP t ht W) w
def txts (l : List (ByteArray × Int)) : List ByteArray := l.map (·.1)
theorem txts_len (l : List (ByteArray × Int)) : (txts l).length = l.length := by simp [txts]
theorem Blk.sixP {W : World} {b : Nat} {v0 v1 v2 v3 v4 v5 : Value} (h : Blk W b [v0, v1, v2, v3, v4, v5]) : b < W.heap.size ∧ (W.cell? ⟨b, 0, none⟩ = some v0 ∧ W.cell? ⟨b, 1, none⟩ = some v1 ∧ W.cell? ⟨b, 2, none⟩ = some v2 ∧ W.cell? ⟨b, 3, none⟩ = some v3 ∧ W.cell? ⟨b, 4, none⟩ = some v4 ∧ W.cell? ⟨b, 5, none⟩ = some v5) ∧
    (W.frozen? ⟨b, 0, none⟩ = false ∧ W.frozen? ⟨b, 1, none⟩ = false ∧ W.frozen? ⟨b, 2, none⟩ = false ∧ W.frozen? ⟨b, 3, none⟩ = false ∧ W.frozen? ⟨b, 4, none⟩ = false ∧ W.frozen? ⟨b, 5, none⟩ = false) :=
  ⟨h.lt, ⟨h.cs.1, h.cs.2.2.1, h.cs.2.2.2.2.1, h.cs.2.2.2.2.2.2.1, h.cs.2.2.2.2.2.2.2.2.1, h.cs.2.2.2.2.2.2.2.2.2.2.1⟩,
    h.cs.2.1, h.cs.2.2.2.1, h.cs.2.2.2.2.2.1, h.cs.2.2.2.2.2.2.2.1, h.cs.2.2.2.2.2.2.2.2.2.1, h.cs.2.2.2.2.2.2.2.2.2.2.2.1⟩
theorem newSix (W : World) (E : TypeId) : Blk (W.alloc (.cells #[.int .i64 0, .int .i64 0, .int .i64 0, .int .i64 0, .int .i64 0, .int .i64 0] E)) W.heap.size [.int .i64 0, .int .i64 0, .int .i64 0, .int .i64 0, .int .i64 0, .int .i64 0] := by
  refine ⟨by simp, ?_⟩
  refine ⟨?_, ?_, ?_, ?_, ?_, ?_, ?_, ?_, ?_, ?_, ?_, ?_, trivial⟩ <;> simp
def spVals (mo ki wd da ti re : Int) : List Value := [.int .i64 mo, .int .i64 ki, .int .i64 wd, .int .i64 da, .int .i64 ti, .int .i64 re]
theorem ret_sp {Post : Ending → World → Prop} {tm : Array Value} {X : World} {B : Nat} {mo ki wd da ti re : Int} (F : Blk X B (spVals mo ki wd da ti re)) (ht : tm[4]?.getD undef = .pointer (some ⟨B, 0, none⟩)) (hp : Post (.returned (.agg #[.int .i64 mo, .int .i64 ki, .int .i64 wd, .int .i64 da, .int .i64 ti, .int .i64 re])) X) :
    bodyPost Tryz.prog Tryz.f143 Post Exit.ret { tmps := tm, defers := [] } X := by
  obtain ⟨_, ⟨e0, e1, e2, e3, e4, e5⟩, _⟩ := Blk.sixP F
  refine bodyPost_ret (v := .agg #[.int .i64 mo, .int .i64 ki, .int .i64 wd, .int .i64 da, .int .i64 ti, .int .i64 re]) ?_ rfl hp
  simp [results, Tryz.results143, go_sem, ht, e0, e1, e2, e3, e4, e5]
theorem Wd.drop {W : World} {R : Nat} {b o n c : Nat} {l : List (ByteArray × Int)} (h : Wd W R (some ⟨b, o, none⟩) n c l) (m : Nat) (hm : m ≤ n) : Wd W R (some ⟨b, o + m * 2, none⟩) (n - m) (c - m) (l.drop m) := by
  have hl := h.fs.len
  refine ⟨⟨by rw [List.length_drop, hl], by have := h.fs.cap; omega, by have := h.fs.max; omega, fun hp => ?_⟩, fun a e _ => by cases e; exact h.ne ⟨b, o, none⟩ rfl (by omega)⟩
  obtain ⟨b', o', e, hb, hc⟩ := h.fs.cells (by omega)
  cases e
  refine ⟨b, o + m * 2, rfl, hb, fun j hj => ?_⟩
  rw [List.length_drop] at hj
  have := hc (m + j) (by omega)
  rw [show o + m * 2 + 2 * j = o + 2 * (m + j) by omega, List.getElem_drop]
  exact this
def PRel (W1 : World) (T : List ByteArray) (v i : Value) (wr : World) : Prop :=
  ∃ k : Nat, k ≤ T.length ∧ i = .int .i64 k ∧ wr.ownsRow W1.heap.size 9 1 v k (strs (T.take k)) ∧ Below W1.heap.size W1 wr
theorem spot_some (w0 : World) (R : Nat) (vr vz vl : Value) (ln st en : Int) (l : List (ByteArray × Int)) (m : Nat) (hm0 : 0 < m) (hm : m ≤ l.length) (hm9 : m ≤ 100) (mo ki wd da ti re x : Int) (kk : Nat) (hk : ¬ x = 0 → kk < l.length)
    (V W : World) (h : Rdr w0 R V vr vz vl ln st en l W) (PS : ∀ (A : Option Addr) (n c : Nat) (W' : World), Below w0.heap.size w0 W' → Ss W' A n c (txts (l.take m)) → Calls Tryz.prog 165 #[.slice A n c] W' fun e w' => e = .returned (.tuple #[.agg #[.int .i64 mo, .int .i64 ki, .int .i64 wd, .int .i64 da, .int .i64 ti, .int .i64 re], .int .i64 (kk : Nat), .int .i64 x]) ∧ Below W'.heap.size W' w') :
    Calls Tryz.prog 143 #[.pointer (some ⟨R, 0, none⟩), .int .i64 m] W (Out w0 (x, ln, fa l kk) fun e W' => e = .returned (.agg #[.int .i64 mo, .int .i64 ki, .int .i64 wd, .int .i64 da, .int .i64 ti, .int .i64 re]) ∧ Rdr w0 R V vr vz vl ln st en (l.drop m) W' ∧ Gr R W W') := by
  obtain ⟨i0, hi, hz0, hz1, hz2⟩ := info_partsS str_info
  have FL := Lib.hid (fun x a W h => failP w0 R vr vz vl ln st en l x a V W h)
  have ge := h.ge
  have HB := Lib.hid h.hb
  have HR := Lib.hid h
  have gr := h.gr
  have GR := Lib.hid gr
  obtain ⟨A, n, c, hB, hV⟩ := h.at_
  have hW := hV.keep gr
  obtain ⟨b, o, rfl, hlt, hc⟩ := hW.fs.cells (by have := hW.fs.len; omega)
  obtain ⟨lt, ⟨c0, c1, c2, c3, c4, c5, c6⟩, ⟨f0, f1, f2, f3, f4, f5, f6⟩⟩ := hB.sevenR
  have hle := hW.fs.len
  have hcp := hW.fs.cap
  have hmx := hW.fs.max
  have HWd := Lib.hid hV
  have HBk := Lib.hid hB
  have CT : ∀ T, txts (l.take m) = T → ∀ (j : Nat) (hj : j < T.length), W.cell? ⟨b, o + j * 2, none⟩ = some (.string T[j]) ∧ ∃ a, W.cell? ⟨b, o + j * 2 + 1, none⟩ = some (.int .i64 a) := by
    rintro T rfl j hj
    have hj' : j < m := by rw [txts_len, List.length_take] at hj; omega
    have := hc j (by omega)
    rw [Nat.mul_comm] at this
    have e : (txts (l.take m))[j] = l[j].1 := by simp [txts]
    rw [e]
    exact ⟨this.1, _, this.2⟩
  have KC := Lib.hid (fun (e : ¬ x = 0) => show W.cell? ⟨b, o + kk * 2 + 1, none⟩ = some (.int .i64 (fa l kk)) from by
    have hkl := hk e
    have := (hc kk hkl).2
    rw [Nat.mul_comm] at this
    rw [this]
    unfold fa
    rw [List.getD_eq_getElem?_getD, List.getElem?_eq_getElem hkl]
    rfl)
  obtain ⟨T, hT⟩ : ∃ T, txts (l.take m) = T := ⟨_, rfl⟩
  have HC := Lib.hid (CT T hT)
  have TL : T.length = m := by rw [← hT, txts_len, List.length_take]; omega
  rw [hT] at PS
  have PH := Lib.hid PS
  clear CT hT
  unfold maxLen at hmx
  have hk0 := newSix W 50
  have hb0 := below_box W (.cells #[.int .i64 0, .int .i64 0, .int .i64 0, .int .i64 0, .int .i64 0, .int .i64 0] 50)
  have sz0 : (W.alloc (.cells #[.int .i64 0, .int .i64 0, .int .i64 0, .int .i64 0, .int .i64 0, .int .i64 0] 50)).heap.size = W.heap.size + 1 := by simp
  have hk1 := Lib.hid hk0
  have hb1 := Lib.hid hb0
  clear h hB hW hV gr hc PS hk0 hb0
  subst hle
  go_enter Tryz.func143, Tryz.ntmps143
  go_wp2_with fail
  generalize (W.alloc (.cells #[.int .i64 0, .int .i64 0, .int .i64 0, .int .i64 0, .int .i64 0, .int .i64 0] 50)) = W1 at *
  go_loopw [5, 7, 18] (fun v5 v7 v18 wr => PRel W1 T v5 v18 wr) (fun _ _ v _ => m - (intOf v).toNat)
  case atStart => exact ⟨0, Nat.zero_le _, rfl, World.ownsRow_nil _ _ _ _, Below.refl _ _⟩
  case round =>
    obtain ⟨q, hq, rfl, hown, hbel⟩ := hrel
    by_cases hqm : q < m
    · have d1 : decide (q < m) = true := decide_eq_true hqm
      have d2 : decide ((q : Int) < m) = true := decide_eq_true (by omega)
      obtain ⟨x0, aq, x1⟩ := HC.out q (by omega)
      have lt1 : b < W1.heap.size := by omega
      have y0 := (hbel.cell (p := ⟨b, o + q * 2, none⟩) lt1).trans ((hb1.out.cell (p := ⟨b, o + q * 2, none⟩) hlt).trans x0)
      have y1 := (hbel.cell (p := ⟨b, o + q * 2 + 1, none⟩) lt1).trans ((hb1.out.cell (p := ⟨b, o + q * 2 + 1, none⟩) hlt).trans x1)
      have szr := hbel.size
      have lt2 := hown.lt
      obtain ⟨A', c', rfl, hS⟩ := Ss.of_own hown
      clear x0 x1
      have TE := Lib.hid (show strs (T.take q) ++ [.string (T[q]'(by omega))] = strs (T.take (q + 1)) by rw [strs_snoc, List.take_append_getElem (by omega)])
      generalize T[q]'(by omega) = tq at *
      go_wp2_with
        (at_builtin
         refine wpList_append_own_at _ rfl (.tmp 22) (.tmp 25) 41 rfl W1.heap.size 9 i0 (.string ⟨#[]⟩) 1 16 Tryz.underlying41 hi hz0 hz1 hz2 rfl (by decide) (.slice A' q c') q (strs (T.take q)) rfl ((hown.alloc _).alloc _) ⟨wr.heap.size + 1, 0, none⟩ 1 1 [.string tq] rfl rfl (by have := cell_one_new (wr.alloc (.cells #[.string tq, .int .i64 aq] 73)) (.string tq) 9; rw [World.size_alloc] at this; exact this) ?_ ?_ ?_ ?_ ?_
         · intro u hu; rw [List.mem_singleton.1 hu]; rfl
         · unfold maxLen; omega
         · omega
         · simp; omega
         intro v1 w2 hown2 hg2 _ _)
      rw [TE.out] at hown2
      go_roundw
      case rel => exact ⟨q + 1, by omega, int_eqS (by omega), hown2, ((hbel.alloc (by omega) _).alloc (by simp; omega) _).grown hg2 (by simp; omega) (fun r hr => (lt2 r hr).1)⟩
      case measure => simp only [intOf]; omega
    · have d1 : decide (q < m) = false := decide_eq_false hqm
      have d2 : decide ((q : Int) < m) = false := decide_eq_false (by omega)
      obtain rfl : q = m := by omega
      obtain ⟨A', c', rfl, hS⟩ := Ss.of_own hown
      rw [List.take_of_length_le (by omega)] at hS
      have hbW := hb1.out.trans (hbel.mono (by omega))
      have HR1 := Lib.hid (HR.out.below hbW)
      have kB := hk1.out.below hbel
      have PP := Lib.hid (PH.out A' q c' wr ((Gr.of_below (R := R) hbW).below ge HB.out) hS)
      have szr := hbel.size
      have HG := Lib.hid (Gr.of_below (R := R) hbW)
      have kR := HBk.out.below hbW
      have HRk := Lib.hid kR
      obtain ⟨_, ⟨_, _, _, _, _, _, r6⟩, ⟨_, _, _, _, _, _, rf6⟩⟩ := kR.sevenR
      have HKB := Lib.hid kB
      by_cases hx : x = 0
      · subst hx
        clear FL kB kR HR HR1 KC hown hbel hbW
        go_wp2_with (go_at_call 165; refine PP.out.mono ?_; clear PP; rintro e w2 ⟨rfl, hb2⟩; have kB2 := HKB.out.below hb2; have HKB2 := Lib.hid kB2; have HK2 := Lib.hid kB2; have kR2 := HRk.out.below hb2; have HR2 := Lib.hid kR2; obtain ⟨_, ⟨_, _, _, _, _, _, s6⟩, ⟨_, _, _, _, _, _, sf6⟩⟩ := kR2.sevenR; obtain ⟨_, ⟨e0, e1, e2, e3, e4, e5⟩, ⟨z0, z1, z2, z3, z4, z5⟩⟩ := kB2.sixP; have sz2 := hb2.size; have HG2 := Lib.hid (HG.out.trans (Gr.of_below hb2)); clear hb2 kB2 kR2)
        go_wp2
        · have F := ((HKB2.out.far (b' := R) (by omega) 6 (.slice (some ⟨b, o, none⟩) (l.length - q) 0)).self (spVals mo ki wd da ti re) rfl).more (.cells #[.int .i64 mo, .int .i64 ki, .int .i64 wd, .int .i64 da, .int .i64 ti, .int .i64 re] 50)
          have G := (Gr.stores (HG2.out.trans (Gr.set w2 6 (.slice (some ⟨b, o, none⟩) (l.length - q) 0))) (Nat.le_refl W.heap.size) (spVals mo ki wd da ti re) 0).more (.cells #[.int .i64 mo, .int .i64 ki, .int .i64 wd, .int .i64 da, .int .i64 ti, .int .i64 re] 50)
          have KF := ((HR2.out.words (.slice (some ⟨b, o, none⟩) (l.length - q) 0)).farAll (b' := W.heap.size) (by omega) (spVals mo ki wd da ti re) 0).more (.cells #[.int .i64 mo, .int .i64 ki, .int .i64 wd, .int .i64 da, .int .i64 ti, .int .i64 re] 50)
          have WN : Wd V R (some ⟨b, o, none⟩) (l.length - q) 0 (l.drop q) := by
            have hl : l.length = q := by omega
            have e1 : l.drop q = [] := List.drop_of_length_le (by omega)
            rw [e1, hl, Nat.sub_self]
            exact ⟨⟨rfl, Nat.le_refl _, Nat.zero_le _, fun k => (Nat.lt_irrefl 0 k).elim⟩, fun _ _ k => (Nat.lt_irrefl 0 k).elim⟩
          exact ret_sp F rfl (.inr ⟨rfl, rfl, Rdr.of_gr ge HB.out GR.out WN G KF, G⟩)
        · have F := ((HKB2.out.far (b' := R) (by omega) 6 (.slice (some ⟨b, o + q * 2, none⟩) (l.length - q) (c - q))).self (spVals mo ki wd da ti re) rfl).more (.cells #[.int .i64 mo, .int .i64 ki, .int .i64 wd, .int .i64 da, .int .i64 ti, .int .i64 re] 50)
          have G := (Gr.stores (HG2.out.trans (Gr.set w2 6 (.slice (some ⟨b, o + q * 2, none⟩) (l.length - q) (c - q)))) (Nat.le_refl W.heap.size) (spVals mo ki wd da ti re) 0).more (.cells #[.int .i64 mo, .int .i64 ki, .int .i64 wd, .int .i64 da, .int .i64 ti, .int .i64 re] 50)
          have KF := ((HR2.out.words (.slice (some ⟨b, o + q * 2, none⟩) (l.length - q) (c - q))).farAll (b' := W.heap.size) (by omega) (spVals mo ki wd da ti re) 0).more (.cells #[.int .i64 mo, .int .i64 ki, .int .i64 wd, .int .i64 da, .int .i64 ti, .int .i64 re] 50)
          exact ret_sp F rfl (.inr ⟨rfl, rfl, Rdr.of_gr ge HB.out GR.out (HWd.out.drop q (by omega)) G KF, G⟩)
      · have nx : (x != 0) = true := by rw [bne_iff_ne]; exact hx
        have HX := Lib.hid hx
        have kc := KC.out hx
        have kc1 := hbW.cell (p := ⟨b, o + kk * 2 + 1, none⟩) hlt
        have kl := hk hx
        have y1 := kc1.trans kc
        have ltw : b < wr.heap.size := by omega
        obtain ⟨aa, hA⟩ : ∃ aa, fa l kk = aa := ⟨_, rfl⟩
        rw [hA] at y1
        have HA := Lib.hid hA
        clear hA
        clear kB kR HR KC hown hbel hbW hx kc kc1 hk HKB
        go_wp2_with fail
        refine PP.out.mono ?_
        rintro e w2 ⟨rfl, hb2⟩
        have kR2 := HRk.out.below hb2
        obtain ⟨_, ⟨_, _, _, _, _, _, s6⟩, ⟨_, _, _, _, _, _, sf6⟩⟩ := kR2.sevenR
        have sz2 := hb2.size
        have yy := (hb2.cell (p := ⟨b, o + kk * 2 + 1, none⟩) ltw).trans y1
        have lt3 : b < w2.heap.size := by omega
        have HR3 := Lib.hid (HR1.out.below hb2)
        clear hb2 kR2
        go_wp2_with fail
        refine (FL.out _ _ _ (HR3.out.below (below_box _ _))).mono ?_
        rintro e W' ⟨rfl, hb⟩
        exact ⟨rfl, .inl ⟨HX.out, by rw [HA.out]; exact ⟨rfl, hb⟩⟩⟩
theorem spot_none (w0 : World) (R : Nat) (vr vz vl : Value) (ln st en : Int) (l : List (ByteArray × Int)) (mo ki wd da ti re : Int) (kk : Nat)
    (V W : World) (h : Rdr w0 R V vr vz vl ln st en l W) (PS : ∀ (A : Option Addr) (n c : Nat) (W' : World), Below w0.heap.size w0 W' → Ss W' A n c [] → Calls Tryz.prog 165 #[.slice A n c] W' fun e w' => e = .returned (.tuple #[.agg #[.int .i64 mo, .int .i64 ki, .int .i64 wd, .int .i64 da, .int .i64 ti, .int .i64 re], .int .i64 (kk : Nat), .int .i64 0]) ∧ Below W'.heap.size W' w') :
    Calls Tryz.prog 143 #[.pointer (some ⟨R, 0, none⟩), .int .i64 0] W (Out w0 (0, ln, 0) fun e W' => e = .returned (.agg #[.int .i64 mo, .int .i64 ki, .int .i64 wd, .int .i64 da, .int .i64 ti, .int .i64 re]) ∧ Rdr w0 R V vr vz vl ln st en l W' ∧ Gr R W W') := by
  have ge := h.ge
  have HB := Lib.hid h.hb
  have gr := h.gr
  have GR := Lib.hid gr
  obtain ⟨A, n, c, hB, hV⟩ := h.at_
  have hW := hV.keep gr
  obtain ⟨lt, ⟨c0, c1, c2, c3, c4, c5, c6⟩, ⟨f0, f1, f2, f3, f4, f5, f6⟩⟩ := hB.sevenR
  have hcp := hW.fs.cap
  have hmx := hW.fs.max
  have HWd := Lib.hid hV
  have HBk := Lib.hid hB
  unfold maxLen at hmx
  have hk0 := newSix W 50
  have hb0 := below_box W (.cells #[.int .i64 0, .int .i64 0, .int .i64 0, .int .i64 0, .int .i64 0, .int .i64 0] 50)
  have PP := Lib.hid (PS none 0 0 _ ((Gr.of_below (R := R) hb0).below ge HB.out) (Ss.nil _))
  have sz0 : (W.alloc (.cells #[.int .i64 0, .int .i64 0, .int .i64 0, .int .i64 0, .int .i64 0, .int .i64 0] 50)).heap.size = W.heap.size + 1 := by simp
  have hk1 := Lib.hid hk0
  have hb1 := Lib.hid hb0
  have kR1 := hB.below hb0
  have HR1 := Lib.hid kR1
  clear h hB hW hV gr PS hk0 hb0 kR1
  rcases A with _ | a
  · skip
    go_enter Tryz.func143, Tryz.ntmps143
    go_wp2_with fail
    generalize (W.alloc (.cells #[.int .i64 0, .int .i64 0, .int .i64 0, .int .i64 0, .int .i64 0, .int .i64 0] 50)) = W1 at *
    go_loopw [5, 7, 18] (fun v5 v7 v18 wr => v5 = .slice none 0 0 ∧ v18 = .int .i64 0 ∧ wr = W1) (fun _ _ _ _ => 0)
    case atStart => exact ⟨rfl, rfl, rfl⟩
    case round =>
      obtain ⟨rfl, rfl, rfl⟩ := hrel
      have kR0 := HR1.out
      obtain ⟨_, ⟨_, _, _, _, _, _, r6⟩, ⟨_, _, _, _, _, _, rf6⟩⟩ := kR0.sevenR
      clear kR0
      go_wp2_with fail
      refine PP.out.mono ?_
      rintro e w2 ⟨rfl, hb2⟩
      have kR2 := HR1.out.below hb2
      have HK2 := Lib.hid kR2
      obtain ⟨_, ⟨_, _, _, _, _, _, s6⟩, ⟨_, _, _, _, _, _, sf6⟩⟩ := kR2.sevenR
      have kB2 := hk1.out.below hb2
      have HKB2 := Lib.hid kB2
      obtain ⟨_, ⟨e0, e1, e2, e3, e4, e5⟩, ⟨z0, z1, z2, z3, z4, z5⟩⟩ := kB2.sixP
      have sz2 := hb2.size
      have HG2 := Lib.hid ((Gr.of_below (R := R) hb1.out).trans (Gr.of_below hb2))
      clear hb2 kR2 kB2
      go_wp2
      have F := ((HKB2.out.far (b' := R) (by omega) 6 (.slice none n c)).self (spVals mo ki wd da ti re) rfl).more (.cells #[.int .i64 mo, .int .i64 ki, .int .i64 wd, .int .i64 da, .int .i64 ti, .int .i64 re] 50)
      have G := (Gr.stores (HG2.out.trans (Gr.set w2 6 (.slice none n c))) (Nat.le_refl W.heap.size) (spVals mo ki wd da ti re) 0).more (.cells #[.int .i64 mo, .int .i64 ki, .int .i64 wd, .int .i64 da, .int .i64 ti, .int .i64 re] 50)
      have KF := ((HK2.out.words (.slice none n c)).farAll (b' := W.heap.size) (by omega) (spVals mo ki wd da ti re) 0).more (.cells #[.int .i64 mo, .int .i64 ki, .int .i64 wd, .int .i64 da, .int .i64 ti, .int .i64 re] 50)
      exact ret_sp F rfl (.inr ⟨rfl, rfl, Rdr.of_gr ge HB.out GR.out HWd.out G KF, G⟩)
  · skip
    go_enter Tryz.func143, Tryz.ntmps143
    go_wp2_with fail
    generalize (W.alloc (.cells #[.int .i64 0, .int .i64 0, .int .i64 0, .int .i64 0, .int .i64 0, .int .i64 0] 50)) = W1 at *
    go_loopw [5, 7, 18] (fun v5 v7 v18 wr => v5 = .slice none 0 0 ∧ v18 = .int .i64 0 ∧ wr = W1) (fun _ _ _ _ => 0)
    case atStart => exact ⟨rfl, rfl, rfl⟩
    case round =>
      obtain ⟨rfl, rfl, rfl⟩ := hrel
      have kR0 := HR1.out
      obtain ⟨_, ⟨_, _, _, _, _, _, r6⟩, ⟨_, _, _, _, _, _, rf6⟩⟩ := kR0.sevenR
      clear kR0
      go_wp2_with fail
      refine PP.out.mono ?_
      rintro e w2 ⟨rfl, hb2⟩
      have kR2 := HR1.out.below hb2
      have HK2 := Lib.hid kR2
      obtain ⟨_, ⟨_, _, _, _, _, _, s6⟩, ⟨_, _, _, _, _, _, sf6⟩⟩ := kR2.sevenR
      have kB2 := hk1.out.below hb2
      have HKB2 := Lib.hid kB2
      obtain ⟨_, ⟨e0, e1, e2, e3, e4, e5⟩, ⟨z0, z1, z2, z3, z4, z5⟩⟩ := kB2.sixP
      have sz2 := hb2.size
      have HG2 := Lib.hid ((Gr.of_below (R := R) hb1.out).trans (Gr.of_below hb2))
      clear hb2 kR2 kB2
      go_wp2
      have F := ((HKB2.out.far (b' := R) (by omega) 6 (.slice (some a) n c)).self (spVals mo ki wd da ti re) rfl).more (.cells #[.int .i64 mo, .int .i64 ki, .int .i64 wd, .int .i64 da, .int .i64 ti, .int .i64 re] 50)
      have G := (Gr.stores (HG2.out.trans (Gr.set w2 6 (.slice (some a) n c))) (Nat.le_refl W.heap.size) (spVals mo ki wd da ti re) 0).more (.cells #[.int .i64 mo, .int .i64 ki, .int .i64 wd, .int .i64 da, .int .i64 ti, .int .i64 re] 50)
      have KF := ((HK2.out.words (.slice (some a) n c)).farAll (b' := W.heap.size) (by omega) (spVals mo ki wd da ti re) 0).more (.cells #[.int .i64 mo, .int .i64 ki, .int .i64 wd, .int .i64 da, .int .i64 ti, .int .i64 re] 50)
      exact ret_sp F rfl (.inr ⟨rfl, rfl, Rdr.of_gr ge HB.out GR.out HWd.out G KF, G⟩)
def Flt.same (f g : Flt) : Prop := f = g ∨ (f.1 = 0 ∧ g.1 = 0)
theorem Flt.same.refl (f : Flt) : f.same f := .inl rfl
theorem Flt.same.zero {f g : Flt} (h : f.same g) : f.1 = 0 ↔ g.1 = 0 := by
  rcases h with rfl | ⟨a, b⟩
  · exact Iff.rfl
  · exact ⟨fun _ => b, fun _ => a⟩
theorem Flt.same.or {a a' b b' : Flt} (h : a.same a') (k : b.same b') : (orF a b).same (orF a' b') := by
  rcases h with rfl | ⟨h1, h2⟩
  · unfold orF
    split
    · exact k
    · exact .inl rfl
  · rw [orF_no h1, orF_no h2]
    exact k
theorem Out.same {w0 W : World} {f g : Flt} {ok : Ending → World → Prop} {e : Ending} (h : f.same g) (o : Out w0 f ok e W) : Out w0 g ok e W := by
  rcases h with rfl | ⟨a, b⟩
  · exact o
  · rcases o with ⟨n, _⟩ | ⟨_, k⟩
    · exact absurd a n
    · exact .inr ⟨b, k⟩
theorem parse_at3 (l : List ByteArray) (h3 : l.length ≤ 3) : 0 ≤ (parseRes l).2.1 ∧ (¬ (parseRes l).2.2 = 0 → (parseRes l).2.1 < l.length) := by
  unfold parseRes
  rw [if_neg (by omega)]
  match l with
  | [] => exact ⟨Int.le_refl _, fun c => absurd rfl c⟩
  | [a] =>
    show _ ∧ _
    simp only []
    split
    · exact ⟨by decide, fun _ => by simp⟩
    · exact ⟨Int.le_refl _, fun c => absurd rfl c⟩
  | [a, b] =>
    simp only []
    split
    · exact ⟨by decide, fun _ => by simp⟩
    · split
      · exact ⟨by decide, fun _ => by simp⟩
      · exact ⟨Int.le_refl _, fun c => absurd rfl c⟩
  | [a, b, d] =>
    simp only []
    split
    · exact ⟨by decide, fun _ => by simp⟩
    · split
      · exact ⟨by decide, fun _ => by simp⟩
      · split
        · exact ⟨by decide, fun _ => by simp⟩
        · exact ⟨Int.le_refl _, fun c => absurd rfl c⟩
  | _ :: _ :: _ :: _ :: _ => simp at h3
def spFlt (l : List (ByteArray × Int)) (m : Nat) (ln : Int) : Flt := ((parseRes (txts (l.take m))).2.2, ln, fa l (parseRes (txts (l.take m))).2.1.toNat)
theorem spotP (w0 : World) (M : Mom w0) (R : Nat) (vr vz vl : Value) (ln st en : Int) (l : List (ByteArray × Int)) (m : Nat) (hm : m ≤ l.length) (hm3 : m ≤ 3) (hz : ∀ x ∈ l, x.1.size ≤ 1000) (V W : World) (h : Rdr w0 R V vr vz vl ln st en l W) :
    Calls Tryz.prog 143 #[.pointer (some ⟨R, 0, none⟩), .int .i64 m] W (Out w0 (spFlt l m ln) fun e W' => e = .returned (parseRes (txts (l.take m))).1.val ∧ Rdr w0 R V vr vz vl ln st en (l.drop m) W' ∧ Gr R W W') := by
  have LT : (txts (l.take m)).length = m := by rw [txts_len, List.length_take]; omega
  obtain ⟨p1, p2⟩ := parse_at3 (txts (l.take m)) (by omega)
  have PS : ∀ (A : Option Addr) (n c : Nat) (W' : World), Below w0.heap.size w0 W' → Ss W' A n c (txts (l.take m)) → Calls Tryz.prog 165 #[.slice A n c] W' (RetSp W' (parseRes (txts (l.take m)))) := fun A n c W' hb hS =>
    parseMP A n c _ W' hS (fun i hi _ => by
      have : (txts (l.take m))[i] ∈ txts (l.take m) := List.getElem_mem hi
      unfold txts at this
      obtain ⟨x, hx, e⟩ := List.mem_map.1 this
      have := hz x (List.mem_of_mem_take hx)
      show (txts (l.take m))[i].size ≤ 1000
      unfold txts
      rw [← e]
      exact this) (M.mono hb)
  rw [LT] at p2
  unfold spFlt
  generalize parseRes (txts (l.take m)) = r at *
  obtain ⟨⟨mo, ki, wd, da, ti, re⟩, k, x⟩ := r
  obtain ⟨kk, rfl⟩ : ∃ kk : Nat, k = (kk : Int) := ⟨k.toNat, by have := p1; simp only at this; omega⟩
  simp only [Int.toNat_natCast] at *
  unfold RetSp Sp.val at PS
  by_cases hm0 : m = 0
  · subst hm0
    have hx : x = 0 := by
      apply Classical.byContradiction
      intro c
      have := p2 c
      omega
    subst hx
    refine (spot_none w0 R vr vz vl ln st en l mo ki wd da ti re kk V W h PS).mono fun e W' o => ?_
    exact Out.same (.inr ⟨rfl, rfl⟩) o
  · exact spot_some w0 R vr vz vl ln st en l m (by omega) hm (by omega) mo ki wd da ti re x kk (fun c => by have := p2 c; omega) V W h PS
theorem CellsAt.upd {W : World} {b i : Nat} {v : Value} : ∀ {vs : List Value} {k : Nat}, CellsAt W b k vs → k ≤ i → i < k + vs.length → CellsAt (W.setCell ⟨b, i, none⟩ v) b k (vs.set (i - k) v) := by
  intro vs
  induction vs with
  | nil => intro k _ _ h; simp at h; omega
  | cons u r ih =>
    intro k h hk hi
    have keep : ∀ (j : Nat), j ≠ i → (W.setCell ⟨b, i, none⟩ v).cell? ⟨b, j, none⟩ = W.cell? ⟨b, j, none⟩ := fun j hj => World.cell?_setCell_other _ _ _ _ (fun e => hj (by cases e; rfl))
    by_cases e : k = i
    · subst e
      rw [Nat.sub_self]
      refine ⟨World.cell?_setCell_same _ _ _ h.1, by simpa using h.2.1, ?_⟩
      have : ∀ {us : List Value} {j : Nat}, k < j → CellsAt W b j us → CellsAt (W.setCell ⟨b, k, none⟩ v) b j us := by
        intro us
        induction us with
        | nil => intro j _ _; trivial
        | cons x y ih2 => intro j hj c; exact ⟨(keep j (by omega)).trans c.1, by simpa using c.2.1, ih2 (by omega) c.2.2⟩
      exact this (by omega) h.2.2
    · rw [show i - k = (i - (k + 1)) + 1 by omega]
      exact ⟨(keep k e).trans h.1, by simpa using h.2.1, ih h.2.2 (by omega) (by simp at hi; omega)⟩
theorem Blk.upd {W : World} {b : Nat} {vs : List Value} (h : Blk W b vs) (i : Nat) (v : Value) (hi : i < vs.length) (us : List Value) (e : vs.set i v = us) : Blk (W.setCell ⟨b, i, none⟩ v) b us :=
  ⟨by simpa [World.setCell] using h.lt, by have := h.cs.upd (i := i) (v := v) (Nat.zero_le _) (by omega); rw [Nat.sub_zero, e] at this; exact this⟩
theorem blk_lit (W : World) (E : TypeId) (vs : List Value) : Blk (W.alloc (.cells vs.toArray E)) W.heap.size vs := by
  have key : ∀ (us : List Value) (k : Nat), (∀ (j : Nat) (h : j < us.length), vs[k + j]? = some us[j]) → CellsAt (W.alloc (.cells vs.toArray E)) W.heap.size k us := by
    intro us
    induction us with
    | nil => intro k _; trivial
    | cons u r ih =>
      intro k h
      have h0 := h 0 (by simp)
      refine ⟨?_, ?_, ih (k + 1) fun j hj => ?_⟩
      · have := h0
        simp at this
        simp [this]
      · simp
      · have := h (j + 1) (by simpa using hj)
        rw [show k + 1 + j = k + (j + 1) by omega]
        simpa using this
  exact ⟨by simp, key vs 0 fun j hj => by rw [Nat.zero_add, List.getElem?_eq_getElem hj]⟩
def TkI (w0 : World) (R : Nat) (V : World) (vr vz vl : Value) (ln st en : Int) (K : FuncId) (t : ByteArray) (a : Int) (l : List (ByteArray × Int)) (v x : Int) : Prop := ∀ X, Rdr w0 R V vr vz vl ln st en ((t, a) :: l) X →
  Calls Tryz.prog 136 #[.pointer (some ⟨R, 0, none⟩), .func (.func K) #[] #[]] X (Out w0 (x, ln, a) fun e W' => e = .returned (.int .i64 v) ∧ Rdr w0 R V vr vz vl ln st en l W' ∧ Gr R X W')
def TkE (w0 : World) (R : Nat) (V : World) (vr vz vl : Value) (ln st en : Int) (K : FuncId) (t : ByteArray) (a : Int) (l : List (ByteArray × Int)) (k s : Int) (r : ByteArray) (x : Int) : Prop := ∀ X, Rdr w0 R V vr vz vl ln st en ((t, a) :: l) X →
  Calls Tryz.prog 138 #[.pointer (some ⟨R, 0, none⟩), .func (.func K) #[] #[]] X (Out w0 (x, ln, a) fun e W' => e = .returned (esAgg k s r) ∧ Rdr w0 R V vr vz vl ln st en l W' ∧ Gr R X W')
def TkN (w0 : World) (R : Nat) (V : World) (vr vz vl : Value) (ln st en : Int) (K : FuncId) (t : ByteArray) (a : Int) (l : List (ByteArray × Int)) (v : ByteArray) (x : Int) : Prop := ∀ (g : Nat) (X : World), Rdr w0 R V vr vz vl ln st en ((t, a) :: l) X → g ≠ R → X.cell? ⟨g, 0, none⟩ = some (.func (.func K) #[] #[]) → g < X.heap.size →
  Calls Tryz.prog 140 #[.pointer (some ⟨R, 0, none⟩), .func (.func 163) #[] #[.pointer (some ⟨g, 0, none⟩)]] X (Out w0 (x, ln, a) fun e W' => e = .returned (.string v) ∧ Rdr w0 R V vr vz vl ln st en l W' ∧ Gr R X W')
def TkP (w0 : World) (R : Nat) (V : World) (vr vz vl : Value) (ln st en : Int) (l l' : List (ByteArray × Int)) (m : Nat) (f : Flt) (mo ki wd da ti re : Int) : Prop := ∀ X, Rdr w0 R V vr vz vl ln st en l X →
  Calls Tryz.prog 143 #[.pointer (some ⟨R, 0, none⟩), .int .i64 m] X (Out w0 f fun e W' => e = .returned (.agg #[.int .i64 mo, .int .i64 ki, .int .i64 wd, .int .i64 da, .int .i64 ti, .int .i64 re]) ∧ Rdr w0 R V vr vz vl ln st en l' W' ∧ Gr R X W')
theorem Blk.gr {W W' : World} {R b : Nat} {vs : List Value} (h : Blk W b vs) (g : Gr R W W') (ne : b ≠ R) : Blk W' b vs := blk_grown g (fun r e => by cases e; exact Ne.symm ne) h
theorem ret_er {Post : Ending → World → Prop} {tm : Array Value} {X : World} {B : Nat} {v0 v1 v2 v3 v4 v5 v6 v7 v8 v9 v10 v11 v12 : Value} (F : Blk X B [v0, v1, v2, v3, v4, v5, v6, v7, v8, v9, v10, v11, v12]) (ht : tm[2]?.getD undef = .pointer (some ⟨B, 0, none⟩)) (hp : Post (.returned (.agg #[v0, v1, v2, v3, v4, v5, v6, v7, v8, v9, v10, v11, v12])) X) :
    bodyPost Tryz.prog Tryz.f110 Post Exit.ret { tmps := tm, defers := [] } X := by
  obtain ⟨_, ⟨e0, e1, e2, e3, e4, e5, e6, e7, e8, e9, e10, e11, e12⟩, _⟩ := Blk.thirteen F
  refine bodyPost_ret (v := .agg #[v0, v1, v2, v3, v4, v5, v6, v7, v8, v9, v10, v11, v12]) ?_ rfl hp
  simp [results, Tryz.results110, go_sem, ht, e0, e1, e2, e3, e4, e5, e6, e7, e8, e9, e10, e11, e12]
theorem Rdr.stores {w0 V W : World} {R : Nat} {vr vz vl : Value} {ln st en : Int} {l : List (ByteArray × Int)} (h : Rdr w0 R V vr vz vl ln st en l W) {b : Nat} (hb : V.heap.size ≤ b) (hw : w0.heap.size ≤ b) (ne : b ≠ R) : ∀ (vs : List Value) (i : Nat), Rdr w0 R V vr vz vl ln st en l (setAll W b i vs) := by
  intro vs
  induction vs generalizing W with
  | nil => intro i; exact h
  | cons v r ih => intro i; exact ih (h.store hb hw ne i v) (i + 1)
theorem era_short (w0 : World) (R : Nat) (V : World) (vr vz vl : Value) (ln st en : Int) (t0 t1 t2 : ByteArray) (a0 a1 a2 : Int)  (off k s : Int) (r f : ByteArray) (x1 x2 x3 : Int)
    (T1 : Hid (TkI w0 R V vr vz vl ln st en 137 t0 a0 ((t1, a1) :: (t2, a2) :: []) off x1)) (T2 : Hid (TkE w0 R V vr vz vl ln st en 139 t1 a1 ((t2, a2) :: []) k s r x2)) (T3 : Hid (TkN w0 R V vr vz vl ln st en 97 t2 a2 ([]) f x3))
    (W : World) (h : Rdr w0 R V vr vz vl ln st en ((t0, a0) :: (t1, a1) :: (t2, a2) :: []) W) :
    Calls Tryz.prog 110 #[.pointer (some ⟨R, 0, none⟩)] W (Out w0 (orF (x1, ln, a0) (orF (x2, ln, a1) (x3, ln, a2))) fun e W' => e = .returned (.agg #[.int .i64 off, .int .i64 k, .int .i64 s, .string r, .string f, .bool false, .int .i64 0, .int .i64 0, .int .i64 0, .int .i64 0, .int .i64 0, .int .i64 0, .int .i64 0]) ∧ Rdr w0 R V vr vz vl ln st en [] W' ∧ Gr R W W') := by
  have NM := Lib.hid (nameP 97)
  have ge := h.ge
  have szV := h.gr.size
  have ltR : R < W.heap.size := by
    obtain ⟨_, _, _, hB, _⟩ := h.at_
    exact hB.lt
  have szw := h.hb.size
  have k0 := blk_lit W 52 [.int .i64 0, .int .i64 0, .int .i64 0, .string ⟨#[]⟩, .string ⟨#[]⟩, .bool false, .int .i64 0, .int .i64 0, .int .i64 0, .int .i64 0, .int .i64 0, .int .i64 0, .int .i64 0]
  have H0 := Lib.hid (h.below (below_box W (.cells #[.int .i64 0, .int .i64 0, .int .i64 0, .string ⟨#[]⟩, .string ⟨#[]⟩, .bool false, .int .i64 0, .int .i64 0, .int .i64 0, .int .i64 0, .int .i64 0, .int .i64 0, .int .i64 0] 52)))
  have K0 := Lib.hid k0
  have G0 := Lib.hid (Gr.of_below (R := R) (below_box W (.cells #[.int .i64 0, .int .i64 0, .int .i64 0, .string ⟨#[]⟩, .string ⟨#[]⟩, .bool false, .int .i64 0, .int .i64 0, .int .i64 0, .int .i64 0, .int .i64 0, .int .i64 0, .int .i64 0] 52)))
  have sz0 : (W.alloc (.cells #[.int .i64 0, .int .i64 0, .int .i64 0, .string ⟨#[]⟩, .string ⟨#[]⟩, .bool false, .int .i64 0, .int .i64 0, .int .i64 0, .int .i64 0, .int .i64 0, .int .i64 0, .int .i64 0] 52)).heap.size = W.heap.size + 1 := by simp
  clear h k0
  go_enter Tryz.func110, Tryz.ntmps110
  go_wp2_with fail
  refine (T1.out _ H0.out).mono ?_
  rintro e w1 (⟨hx, rfl, hb⟩ | ⟨hx1, rfl, hr, hg⟩)
  · exact ⟨rfl, .inl ⟨by rw [orF_yes hx]; exact hx, by rw [orF_yes hx]; exact ⟨rfl, hb⟩⟩⟩
  have H1 := Lib.hid hr
  have G1 := Lib.hid (G0.out.trans hg)
  have K1 := Lib.hid (K0.out.gr hg (by omega))
  have X1 := Lib.hid hx1
  have sz1 := hg.size
  rw [sz0] at sz1
  clear H0 G0 K0 hr hg hx1 T1 sz0
  go_wp2_with fail
  refine (T2.out _ H1.out).mono ?_
  rintro e w2 (⟨hx, rfl, hb⟩ | ⟨hx2, rfl, hr, hg⟩)
  · exact ⟨rfl, .inl ⟨by rw [orF_no X1.out, orF_yes hx]; exact hx, by rw [orF_no X1.out, orF_yes hx]; exact ⟨rfl, hb⟩⟩⟩
  have H2 := Lib.hid hr
  have G2 := Lib.hid (G1.out.trans hg)
  have K2 := Lib.hid (K1.out.gr hg (by omega))
  have X2 := Lib.hid hx2
  have sz2 := hg.size
  clear H1 G1 K1 hr hg hx2 T2
  unfold esAgg
  go_wp2_with (go_at_call 141; refine (NM.out _).mono ?_; clear NM; rintro e w' ⟨rfl, rfl⟩)
  have b1 := below_box w2 (.cells #[.int .i64 off, .int .i64 k, .int .i64 s, .string r, .string ⟨#[]⟩, .bool false, .int .i64 0, .int .i64 0, .int .i64 0, .int .i64 0, .int .i64 0, .int .i64 0, .int .i64 0] 52)
  have b2 := below_box (w2.alloc (.cells #[.int .i64 off, .int .i64 k, .int .i64 s, .string r, .string ⟨#[]⟩, .bool false, .int .i64 0, .int .i64 0, .int .i64 0, .int .i64 0, .int .i64 0, .int .i64 0, .int .i64 0] 52)) (.cells #[.func (.func 97) #[] #[]] 34)
  have kx := (blk_lit w2 52 [.int .i64 off, .int .i64 k, .int .i64 s, .string r, .string ⟨#[]⟩, .bool false, .int .i64 0, .int .i64 0, .int .i64 0, .int .i64 0, .int .i64 0, .int .i64 0, .int .i64 0]).more (.cells #[.func (.func 97) #[] #[]] 34)
  have kb := blk_lit (w2.alloc (.cells #[.int .i64 off, .int .i64 k, .int .i64 s, .string r, .string ⟨#[]⟩, .bool false, .int .i64 0, .int .i64 0, .int .i64 0, .int .i64 0, .int .i64 0, .int .i64 0, .int .i64 0] 52)) 34 [.func (.func 97) #[] #[]]
  rw [World.size_alloc] at kb
  have szb : ((w2.alloc (.cells #[.int .i64 off, .int .i64 k, .int .i64 s, .string r, .string ⟨#[]⟩, .bool false, .int .i64 0, .int .i64 0, .int .i64 0, .int .i64 0, .int .i64 0, .int .i64 0, .int .i64 0] 52)).alloc (.cells #[.func (.func 97) #[] #[]] 34)).heap.size = w2.heap.size + 2 := by simp
  refine (T3.out (w2.heap.size + 1) _ ((H2.out.below b1).below b2) (by omega) kb.one.2.1 (by rw [szb]; omega)).mono ?_
  have G2b := Lib.hid ((G2.out.trans (Gr.of_below b1)).trans (Gr.of_below b2))
  have K2b := Lib.hid ((K2.out.below b1).below b2)
  have KX := Lib.hid kx
  clear b1 b2 kx kb G2 K2 H2
  rintro e w3 (⟨hx, rfl, hb⟩ | ⟨hx3, rfl, hr, hg⟩)
  · exact ⟨rfl, .inl ⟨by rw [orF_no X1.out, orF_no X2.out]; exact hx, by rw [orF_no X1.out, orF_no X2.out]; exact ⟨rfl, hb⟩⟩⟩
  have H3 := Lib.hid hr
  have G3 := Lib.hid (G2b.out.trans hg)
  have K3 := Lib.hid (K2b.out.gr hg (by omega))
  have kx3 := KX.out.gr hg (by omega)
  have KX3 := Lib.hid kx3
  have X3 := Lib.hid hx3
  have sz3 := hg.size
  rw [szb] at sz3
  obtain ⟨A, n, c, hB3, hW3⟩ := hr.at_
  obtain ⟨lt3, ⟨_, _, _, _, _, _, r6⟩, _⟩ := hB3.sevenR
  have nl := hW3.fs.len
  clear G2b K2b KX hr hg hx3 T3 hB3 hW3 szb
  simp only [List.length_nil] at nl
  subst nl
  obtain ⟨ltx, ⟨e0, e1, e2, e3, e4, e5, e6, e7, e8, e9, e10, e11, e12⟩, ⟨z0, z1, z2, z3, z4, z5, z6, z7, z8, z9, z10, z11, z12⟩⟩ := Blk.thirteen kx3
  have k3 := K3.out
  obtain ⟨lty, ⟨q0, q1, q2, q3, q4, q5, q6, q7, q8, q9, q10, q11, q12⟩, ⟨y0, y1, y2, y3, y4, y5, y6, y7, y8, y9, y10, y11, y12⟩⟩ := Blk.thirteen k3
  clear kx3 k3
  go_wp2
  have F := ((K3.out.far (b' := w2.heap.size) (by omega) 4 (.string f)).self [.int .i64 off, .int .i64 k, .int .i64 s, .string r, .string f, .bool false, .int .i64 0, .int .i64 0, .int .i64 0, .int .i64 0, .int .i64 0, .int .i64 0, .int .i64 0] rfl)
  have G := Gr.stores (G3.out.store (b := w2.heap.size) (by omega) 4 (.string f)) (Nat.le_refl W.heap.size) [.int .i64 off, .int .i64 k, .int .i64 s, .string r, .string f, .bool false, .int .i64 0, .int .i64 0, .int .i64 0, .int .i64 0, .int .i64 0, .int .i64 0, .int .i64 0] 0
  have HR := ((H3.out.store (b := w2.heap.size) (by omega) (by omega) (by omega) 4 (.string f)).stores (b := W.heap.size) (by omega) (by omega) (by omega) [.int .i64 off, .int .i64 k, .int .i64 s, .string r, .string f, .bool false, .int .i64 0, .int .i64 0, .int .i64 0, .int .i64 0, .int .i64 0, .int .i64 0, .int .i64 0] 0)
  exact ret_er F rfl (.inr ⟨by rw [orF_no X1.out, orF_no X2.out]; exact X3.out, rfl, HR, G⟩)
theorem era_long (w0 : World) (R : Nat) (V : World) (vr vz vl : Value) (ln st en : Int) (t0 t1 t2 : ByteArray) (a0 a1 a2 : Int) (t3 : ByteArray) (a3 : Int) (sp : List (ByteArray × Int)) (mo ki wd da ti re y x4 : Int) (f5 : Flt) (off k s : Int) (r f : ByteArray) (x1 x2 x3 : Int) (T4 : Hid (TkI w0 R V vr vz vl ln st en 142 t3 a3 sp y x4)) (T5 : Hid (TkP w0 R V vr vz vl ln st en sp [] sp.length f5 mo ki wd da ti re))
    (T1 : Hid (TkI w0 R V vr vz vl ln st en 137 t0 a0 ((t1, a1) :: (t2, a2) :: (t3, a3) :: sp) off x1)) (T2 : Hid (TkE w0 R V vr vz vl ln st en 139 t1 a1 ((t2, a2) :: (t3, a3) :: sp) k s r x2)) (T3 : Hid (TkN w0 R V vr vz vl ln st en 97 t2 a2 ((t3, a3) :: sp) f x3))
    (W : World) (h : Rdr w0 R V vr vz vl ln st en ((t0, a0) :: (t1, a1) :: (t2, a2) :: (t3, a3) :: sp) W) :
    Calls Tryz.prog 110 #[.pointer (some ⟨R, 0, none⟩)] W (Out w0 (orF (x1, ln, a0) (orF (x2, ln, a1) (orF (x3, ln, a2) (orF (x4, ln, a3) f5)))) fun e W' => e = .returned (.agg #[.int .i64 off, .int .i64 k, .int .i64 s, .string r, .string f, .bool true, .int .i64 y, .int .i64 mo, .int .i64 ki, .int .i64 wd, .int .i64 da, .int .i64 ti, .int .i64 re]) ∧ Rdr w0 R V vr vz vl ln st en [] W' ∧ Gr R W W') := by
  have NM := Lib.hid (nameP 97)
  have ge := h.ge
  have szV := h.gr.size
  have ltR : R < W.heap.size := by
    obtain ⟨_, _, _, hB, _⟩ := h.at_
    exact hB.lt
  have szw := h.hb.size
  have k0 := blk_lit W 52 [.int .i64 0, .int .i64 0, .int .i64 0, .string ⟨#[]⟩, .string ⟨#[]⟩, .bool false, .int .i64 0, .int .i64 0, .int .i64 0, .int .i64 0, .int .i64 0, .int .i64 0, .int .i64 0]
  have H0 := Lib.hid (h.below (below_box W (.cells #[.int .i64 0, .int .i64 0, .int .i64 0, .string ⟨#[]⟩, .string ⟨#[]⟩, .bool false, .int .i64 0, .int .i64 0, .int .i64 0, .int .i64 0, .int .i64 0, .int .i64 0, .int .i64 0] 52)))
  have K0 := Lib.hid k0
  have G0 := Lib.hid (Gr.of_below (R := R) (below_box W (.cells #[.int .i64 0, .int .i64 0, .int .i64 0, .string ⟨#[]⟩, .string ⟨#[]⟩, .bool false, .int .i64 0, .int .i64 0, .int .i64 0, .int .i64 0, .int .i64 0, .int .i64 0, .int .i64 0] 52)))
  have sz0 : (W.alloc (.cells #[.int .i64 0, .int .i64 0, .int .i64 0, .string ⟨#[]⟩, .string ⟨#[]⟩, .bool false, .int .i64 0, .int .i64 0, .int .i64 0, .int .i64 0, .int .i64 0, .int .i64 0, .int .i64 0] 52)).heap.size = W.heap.size + 1 := by simp
  clear h k0
  go_enter Tryz.func110, Tryz.ntmps110
  go_wp2_with fail
  refine (T1.out _ H0.out).mono ?_
  rintro e w1 (⟨hx, rfl, hb⟩ | ⟨hx1, rfl, hr, hg⟩)
  · exact ⟨rfl, .inl ⟨by rw [orF_yes hx]; exact hx, by rw [orF_yes hx]; exact ⟨rfl, hb⟩⟩⟩
  have H1 := Lib.hid hr
  have G1 := Lib.hid (G0.out.trans hg)
  have K1 := Lib.hid (K0.out.gr hg (by omega))
  have X1 := Lib.hid hx1
  have sz1 := hg.size
  rw [sz0] at sz1
  clear H0 G0 K0 hr hg hx1 T1 sz0
  go_wp2_with fail
  refine (T2.out _ H1.out).mono ?_
  rintro e w2 (⟨hx, rfl, hb⟩ | ⟨hx2, rfl, hr, hg⟩)
  · exact ⟨rfl, .inl ⟨by rw [orF_no X1.out, orF_yes hx]; exact hx, by rw [orF_no X1.out, orF_yes hx]; exact ⟨rfl, hb⟩⟩⟩
  have H2 := Lib.hid hr
  have G2 := Lib.hid (G1.out.trans hg)
  have K2 := Lib.hid (K1.out.gr hg (by omega))
  have X2 := Lib.hid hx2
  have sz2 := hg.size
  clear H1 G1 K1 hr hg hx2 T2
  unfold esAgg
  go_wp2_with (go_at_call 141; refine (NM.out _).mono ?_; clear NM; rintro e w' ⟨rfl, rfl⟩)
  have b1 := below_box w2 (.cells #[.int .i64 off, .int .i64 k, .int .i64 s, .string r, .string ⟨#[]⟩, .bool false, .int .i64 0, .int .i64 0, .int .i64 0, .int .i64 0, .int .i64 0, .int .i64 0, .int .i64 0] 52)
  have b2 := below_box (w2.alloc (.cells #[.int .i64 off, .int .i64 k, .int .i64 s, .string r, .string ⟨#[]⟩, .bool false, .int .i64 0, .int .i64 0, .int .i64 0, .int .i64 0, .int .i64 0, .int .i64 0, .int .i64 0] 52)) (.cells #[.func (.func 97) #[] #[]] 34)
  have kx := (blk_lit w2 52 [.int .i64 off, .int .i64 k, .int .i64 s, .string r, .string ⟨#[]⟩, .bool false, .int .i64 0, .int .i64 0, .int .i64 0, .int .i64 0, .int .i64 0, .int .i64 0, .int .i64 0]).more (.cells #[.func (.func 97) #[] #[]] 34)
  have kb := blk_lit (w2.alloc (.cells #[.int .i64 off, .int .i64 k, .int .i64 s, .string r, .string ⟨#[]⟩, .bool false, .int .i64 0, .int .i64 0, .int .i64 0, .int .i64 0, .int .i64 0, .int .i64 0, .int .i64 0] 52)) 34 [.func (.func 97) #[] #[]]
  rw [World.size_alloc] at kb
  have szb : ((w2.alloc (.cells #[.int .i64 off, .int .i64 k, .int .i64 s, .string r, .string ⟨#[]⟩, .bool false, .int .i64 0, .int .i64 0, .int .i64 0, .int .i64 0, .int .i64 0, .int .i64 0, .int .i64 0] 52)).alloc (.cells #[.func (.func 97) #[] #[]] 34)).heap.size = w2.heap.size + 2 := by simp
  refine (T3.out (w2.heap.size + 1) _ ((H2.out.below b1).below b2) (by omega) kb.one.2.1 (by rw [szb]; omega)).mono ?_
  have G2b := Lib.hid ((G2.out.trans (Gr.of_below b1)).trans (Gr.of_below b2))
  have K2b := Lib.hid ((K2.out.below b1).below b2)
  have KX := Lib.hid kx
  clear b1 b2 kx kb G2 K2 H2
  rintro e w3 (⟨hx, rfl, hb⟩ | ⟨hx3, rfl, hr, hg⟩)
  · exact ⟨rfl, .inl ⟨by rw [orF_no X1.out, orF_no X2.out, orF_yes hx]; exact hx, by rw [orF_no X1.out, orF_no X2.out, orF_yes hx]; exact ⟨rfl, hb⟩⟩⟩
  have H3 := Lib.hid hr
  have G3 := Lib.hid (G2b.out.trans hg)
  have K3 := Lib.hid (K2b.out.gr hg (by omega))
  have kx3 := KX.out.gr hg (by omega)
  have KX3 := Lib.hid kx3
  have X3 := Lib.hid hx3
  have sz3 := hg.size
  rw [szb] at sz3
  obtain ⟨A, n, c, hB3, hW3⟩ := hr.at_
  obtain ⟨lt3, ⟨_, _, _, _, _, _, r6⟩, _⟩ := hB3.sevenR
  have nl := hW3.fs.len
  clear G2b K2b KX hr hg hx3 T3 hB3 hW3 szb
  simp only [List.length_cons] at nl
  subst nl
  have d0 : decide (0 < sp.length + 1) = true := decide_eq_true (by omega)
  have d0' : decide ((0 : Int) < ((sp.length + 1 : Nat) : Int)) = true := decide_eq_true (by omega)
  have d0'' : decide ((0 : Int) < (sp.length : Int) + 1) = true := decide_eq_true (by omega)
  obtain ⟨ltx, ⟨e0, e1, e2, e3, e4, e5, e6, e7, e8, e9, e10, e11, e12⟩, ⟨z0, z1, z2, z3, z4, z5, z6, z7, z8, z9, z10, z11, z12⟩⟩ := Blk.thirteen kx3
  clear kx3
  go_wp2_with fail
  have hs5 := (H3.out.store (b := w2.heap.size) (by omega) (by omega) (by omega) 4 (.string f)).store (b := w2.heap.size) (by omega) (by omega) (by omega) 5 (.bool true)
  have kx4 := (KX3.out.upd 4 (.string f) (by simp) [.int .i64 off, .int .i64 k, .int .i64 s, .string r, .string f, .bool false, .int .i64 0, .int .i64 0, .int .i64 0, .int .i64 0, .int .i64 0, .int .i64 0, .int .i64 0] rfl).upd 5 (.bool true) (by simp) [.int .i64 off, .int .i64 k, .int .i64 s, .string r, .string f, .bool true, .int .i64 0, .int .i64 0, .int .i64 0, .int .i64 0, .int .i64 0, .int .i64 0, .int .i64 0] rfl
  have g4 := (G3.out.store (b := w2.heap.size) (by omega) 4 (.string f)).store (b := w2.heap.size) (by omega) 5 (.bool true)
  have k4 := (K3.out.far (b' := w2.heap.size) (by omega) 4 (.string f)).far (b' := w2.heap.size) (by omega) 5 (.bool true)
  have sz4 : ((w3.setCell ⟨w2.heap.size, 4, none⟩ (.string f)).setCell ⟨w2.heap.size, 5, none⟩ (.bool true)).heap.size = w3.heap.size := by simp [World.setCell]
  refine (T4.out _ hs5).mono ?_
  have G4 := Lib.hid g4
  have K4 := Lib.hid k4
  have KX4 := Lib.hid kx4
  clear hs5 g4 k4 kx4 G3 K3 KX3 H3
  rintro e w4 (⟨hx, rfl, hb⟩ | ⟨hx4, rfl, hr, hg⟩)
  · exact ⟨rfl, .inl ⟨by rw [orF_no X1.out, orF_no X2.out, orF_no X3.out, orF_yes hx]; exact hx, by rw [orF_no X1.out, orF_no X2.out, orF_no X3.out, orF_yes hx]; exact ⟨rfl, hb⟩⟩⟩
  have H4 := Lib.hid hr
  have G5 := Lib.hid (G4.out.trans hg)
  have K5 := Lib.hid (K4.out.gr hg (by omega))
  have kx5 := KX4.out.gr hg (by omega)
  have KX5 := Lib.hid kx5
  have X4 := Lib.hid hx4
  have szg := hg.size
  rw [sz4] at szg
  obtain ⟨A', n', c', hB4, hW4⟩ := hr.at_
  obtain ⟨lt4, ⟨_, _, _, _, _, _, s6⟩, _⟩ := hB4.sevenR
  have nl := hW4.fs.len
  clear G4 K4 KX4 hr hg hx4 T4 hB4 hW4 sz4 e0 e1 e2 e3 e4 e5 e6 e7 e8 e9 e10 e11 e12 z0 z1 z2 z3 z4 z5 z6 z7 z8 z9 z10 z11 z12
  subst nl
  obtain ⟨ltx, ⟨e0, e1, e2, e3, e4, e5, e6, e7, e8, e9, e10, e11, e12⟩, ⟨z0, z1, z2, z3, z4, z5, z6, z7, z8, z9, z10, z11, z12⟩⟩ := Blk.thirteen kx5
  clear kx5
  go_wp2_with fail
  have hs6 := H4.out.store (b := w2.heap.size) (by omega) (by omega) (by omega) 6 (.int .i64 y)
  have kx6 := KX5.out.upd 6 (.int .i64 y) (by simp) [.int .i64 off, .int .i64 k, .int .i64 s, .string r, .string f, .bool true, .int .i64 y, .int .i64 0, .int .i64 0, .int .i64 0, .int .i64 0, .int .i64 0, .int .i64 0] rfl
  have g6 := G5.out.store (b := w2.heap.size) (by omega) 6 (.int .i64 y)
  have k6 := K5.out.far (b' := w2.heap.size) (by omega) 6 (.int .i64 y)
  have sz6 : (w4.setCell ⟨w2.heap.size, 6, none⟩ (.int .i64 y)).heap.size = w4.heap.size := by simp [World.setCell]
  refine (T5.out _ hs6).mono ?_
  have G6 := Lib.hid g6
  have K6 := Lib.hid k6
  have KX6 := Lib.hid kx6
  clear hs6 g6 k6 kx6 G5 K5 KX5 H4
  rintro e w5 (⟨hx, rfl, hb⟩ | ⟨hx5, rfl, hr, hg⟩)
  · exact ⟨rfl, .inl ⟨by rw [orF_no X1.out, orF_no X2.out, orF_no X3.out, orF_no X4.out]; exact hx, by rw [orF_no X1.out, orF_no X2.out, orF_no X3.out, orF_no X4.out]; exact ⟨rfl, hb⟩⟩⟩
  have H5 := Lib.hid hr
  have G7 := Lib.hid (G6.out.trans hg)
  have k7 := K6.out.gr hg (by omega)
  have K7 := Lib.hid k7
  have kx7 := KX6.out.gr hg (by omega)
  have KX7 := Lib.hid kx7
  have X5 := Lib.hid hx5
  have szh := hg.size
  rw [sz6] at szh
  clear G6 K6 KX6 hr hg hx5 T5 sz6 e0 e1 e2 e3 e4 e5 e6 e7 e8 e9 e10 e11 e12 z0 z1 z2 z3 z4 z5 z6 z7 z8 z9 z10 z11 z12
  obtain ⟨ltx, ⟨e0, e1, e2, e3, e4, e5, e6, e7, e8, e9, e10, e11, e12⟩, ⟨z0, z1, z2, z3, z4, z5, z6, z7, z8, z9, z10, z11, z12⟩⟩ := Blk.thirteen kx7
  obtain ⟨lty, ⟨q0, q1, q2, q3, q4, q5, q6, q7, q8, q9, q10, q11, q12⟩, ⟨y0, y1, y2, y3, y4, y5, y6, y7, y8, y9, y10, y11, y12⟩⟩ := Blk.thirteen k7
  clear kx7 k7
  go_wp2
  have F := ((K7.out.farAll (b' := w2.heap.size) (by omega) [.int .i64 mo, .int .i64 ki, .int .i64 wd, .int .i64 da, .int .i64 ti, .int .i64 re] 7).self [.int .i64 off, .int .i64 k, .int .i64 s, .string r, .string f, .bool true, .int .i64 y, .int .i64 mo, .int .i64 ki, .int .i64 wd, .int .i64 da, .int .i64 ti, .int .i64 re] rfl)
  have G := Gr.stores (Gr.stores (b := w2.heap.size) G7.out (by omega) [.int .i64 mo, .int .i64 ki, .int .i64 wd, .int .i64 da, .int .i64 ti, .int .i64 re] 7) (Nat.le_refl W.heap.size) [.int .i64 off, .int .i64 k, .int .i64 s, .string r, .string f, .bool true, .int .i64 y, .int .i64 mo, .int .i64 ki, .int .i64 wd, .int .i64 da, .int .i64 ti, .int .i64 re] 0
  have HR := (((H5.out.stores (b := w2.heap.size) (by omega) (by omega) (by omega) [.int .i64 mo, .int .i64 ki, .int .i64 wd, .int .i64 da, .int .i64 ti, .int .i64 re] 7)).stores (b := W.heap.size) (by omega) (by omega) (by omega) [.int .i64 off, .int .i64 k, .int .i64 s, .string r, .string f, .bool true, .int .i64 y, .int .i64 mo, .int .i64 ki, .int .i64 wd, .int .i64 da, .int .i64 ti, .int .i64 re] 0)
  exact ret_er F rfl (.inr ⟨by rw [orF_no X1.out, orF_no X2.out, orF_no X3.out, orF_no X4.out]; exact X5.out, rfl, HR, G⟩)
structure Keep (hi R : Nat) (W W' : World) : Prop where
  os : W'.os = W.os
  tape : W'.tape = W.tape
  output : W'.output = W.output
  size : W.heap.size ≤ W'.heap.size
  block : ∀ k, k < hi → k ≠ R → W'.heap[k]? = W.heap[k]?
theorem Keep.refl (hi R : Nat) (W : World) : Keep hi R W W := ⟨rfl, rfl, rfl, Nat.le_refl _, fun _ _ _ => rfl⟩
theorem Keep.trans {hi R : Nat} {A B C : World} (h : Keep hi R A B) (k : Keep hi R B C) : Keep hi R A C := ⟨k.os.trans h.os, k.tape.trans h.tape, k.output.trans h.output, Nat.le_trans h.size k.size, fun i hi hn => (k.block i hi hn).trans (h.block i hi hn)⟩
theorem Keep.of_gr {hi R : Nat} {A B : World} (h : Gr R A B) (hh : hi ≤ A.heap.size) : Keep hi R A B := ⟨h.os, h.tape, h.output, h.size, fun k hk hn => h.block k (by omega) (fun e => hn (by cases e; rfl))⟩
theorem Keep.grown {hi R : Nat} {A B : World} {row : Option Nat} (h : A.grownBy B row) (hh : hi ≤ A.heap.size) (hr : ∀ r, row = some r → hi ≤ r ∨ r = R) : Keep hi R A B := ⟨h.os, h.tape, h.output, h.size, fun k hk hn => h.block k (by omega) (fun e => by rcases hr k e.symm with c | c <;> omega)⟩
theorem Keep.set {hi R : Nat} {A B : World} (h : Keep hi R A B) (o : Nat) (v : Value) : Keep hi R A (B.setCell ⟨R, o, none⟩ v) := ⟨h.os, h.tape, h.output, by simpa [World.setCell] using h.size, fun k hk hn => (Below.heap_setCell B ⟨R, o, none⟩ v k (by show k ≠ R; exact hn)).trans (h.block k hk hn)⟩
theorem Keep.below {hi R : Nat} {w A B : World} (h : Keep hi R A B) (hb : Below w.heap.size w A) (h1 : w.heap.size ≤ R) (h2 : R < hi) : Below w.heap.size w B := ⟨h.os.trans hb.os, h.tape.trans hb.tape, h.output.trans hb.output, Nat.le_trans hb.size h.size, fun k hk => (h.block k (by omega) (by omega)).trans (hb.block k hk)⟩
structure Rds (w0 : World) (R hi : Nat) (S : Sr) (vr vz vl : Value) (ln st en : Int) (wv : Value) (W : World) : Prop where
  ge : w0.heap.size ≤ R
  lt : R < hi
  le : hi ≤ W.heap.size
  hb : Below w0.heap.size w0 W
  blk : Blk W R (rdVals vr vz vl ln st en wv)
  src : SrcAt W hi S vr vz vl
theorem SrcAt.gr {W W' : World} {R hi : Nat} {S : Sr} {vr vz vl : Value} (h : SrcAt W hi S vr vz vl) (g : Gr R W W') (lt : R < hi) : SrcAt W' hi S vr vz vl := by
  obtain ⟨ze, e, o⟩ := h
  exact ⟨ze, e, ⟨fun r hr => (o.own r hr).kept g (by
    cases q : r.v.ownBlock with
    | none => exact .inl rfl
    | some k =>
      right
      intro c
      have ek := Option.some.inj c
      have := (World.ownsRow.lt (o.own r hr) k q).1
      omega), o.apart⟩⟩
theorem own_sl {w : World} {base : Nat} {e : TypeId} {size n : Nat} {v : Value} {xs : List Value} (h : w.ownsRow base e size v n xs) : ∃ A c, v = .slice A n c := by
  rcases h.2 with ⟨a, b⟩ | ⟨g, cap, cur, a, _⟩
  · exact ⟨none, 0, by rw [a, b]⟩
  · exact ⟨_, _, a⟩
theorem SrcAt.rules {W : World} {hi : Nat} {S : Sr} {vr vz vl : Value} (h : SrcAt W hi S vr vz vl) : W.ownsRow hi 57 11 vr S.rules.length (S.rules.flatMap Rl.vals) := by
  obtain ⟨ze, e, o⟩ := h
  exact o.own _ (List.mem_cons_self ..)
theorem SrcAt.links {W : World} {hi : Nat} {S : Sr} {vr vz vl : Value} (h : SrcAt W hi S vr vz vl) : W.ownsRow hi 59 2 vl S.links.length (S.links.flatMap Lk.vals) := by
  obtain ⟨ze, e, o⟩ := h
  exact o.own _ (List.mem_cons_of_mem _ (List.mem_cons_self ..))
theorem Rds.rdr {w0 W : World} {R hi : Nat} {S : Sr} {vr vz vl : Value} {ln st en : Int} {A : Option Addr} {n c : Nat} {l : List (ByteArray × Int)} (h : Rds w0 R hi S vr vz vl ln st en (.slice A n c) W) (hW : Wd W R A n c l) : Rdr w0 R W vr vz vl ln st en l W := ⟨h.ge, h.hb, Gr.refl R W, A, n, c, h.blk, hW⟩
def LnOk (w0 : World) (R hi : Nat) (S : Sr) (ln st en : Int) (W : World) (e : Ending) (W' : World) : Prop := e = .returned (.tuple #[]) ∧ ∃ vr vz vl wv, Rds w0 R hi S vr vz vl ln st en wv W' ∧ Keep hi R W W'
theorem blk_news {W : World} {b : Nat} {vs : List Value} (h : Blk W b vs) : ∀ j u, vs[j]? = some u → W.cell? ((⟨b, 0, none⟩ : Addr).add j) = some u := by
  have key : ∀ (us : List Value) (k : Nat), CellsAt W b k us → ∀ (j : Nat) (u : Value), us[j]? = some u → W.cell? ⟨b, k + j, none⟩ = some u := by
    intro us
    induction us with
    | nil => intro k _ j u hu; simp at hu
    | cons x r ih =>
      intro k hc j u hu
      cases j with
      | zero => simp at hu; subst hu; exact hc.1
      | succ j => have := ih (k + 1) hc.2.2 j u (by simpa using hu); rw [show k + (j + 1) = k + 1 + j by omega]; exact this
  intro j u hu
  have e : (⟨b, 0, none⟩ : Addr).add j = ⟨b, j, none⟩ := by
    unfold Addr.add
    by_cases z : j = 0
    · subst z; simp
    · simp [z]
  rw [e]
  have := key vs 0 h.cs j u hu
  rwa [Nat.zero_add] at this
theorem below_own {w X : World} (h : Below w.heap.size w X) : w.grownBy X none := ⟨h.os, h.tape, h.output, h.size, fun i hi _ => h.block i hi⟩
theorem grew_link {W w3 X w4 : World} {R hi : Nat} {S : Sr} {vr vz : Value} {Al : Option Addr} {nl cl : Nat} {vs : List Value} (G : Gr R W w3) (SA : SrcAt W hi S vr vz (.slice Al nl cl)) (lt : R < hi) (le : hi ≤ W.heap.size) (HN : S.links.length = nl) (HB : Blk w3 R vs) (HX : Below w3.heap.size w3 X) (hX : X.heap.size = w3.heap.size + 1)
    (x : Lk) (g cap : Nat) (hown : w4.ownsRow hi 59 2 (.slice (some ⟨g, 0, none⟩) (nl + 1) cap) (nl + 1) (S.links.flatMap Lk.vals ++ x.vals)) (hgrow : X.grownBy w4 (Value.slice Al nl cl).ownBlock) (hat : (Value.slice Al nl cl).ownBlock = some g ∨ g = w3.heap.size + 1) :
    Blk w4 R vs ∧ SrcAt w4 hi ⟨S.rules, S.zones, S.links ++ [x]⟩ vr vz (.slice (some ⟨g, 0, none⟩) (nl + 1) cap) ∧ Keep hi R W w4 := by
  have S3 := SA.gr G lt
  have lo : ∀ r, (Value.slice Al nl cl).ownBlock = some r → hi ≤ r := fun r e => (S3.links.lt r e).1
  refine ⟨blk_grown hgrow (fun r e => by have := lo r e; omega) (HB.below HX), ?_, ?_⟩
  · refine (S3.grown (below_own HX)).link x (by rw [HN]; exact hown) hgrow ?_
    rcases hat with h | h
    · exact .inl h.symm
    · exact .inr (by rw [hX, ← h]; rfl)
  · exact ((Keep.of_gr G le).trans (Keep.of_gr (Gr.of_below HX) (by have := G.size; omega))).trans (Keep.grown hgrow (by have := G.size; have := HX.size; omega) fun r e => .inl (lo r e))
theorem Rds.stored {w0 W w4 : World} {R hi : Nat} {S : Sr} {vr vz vl : Value} {ln st en : Int} {wv : Value} {us : List Value} (ge : w0.heap.size ≤ R) (lt : R < hi) (le : hi ≤ W.heap.size) (hb : Below w0.heap.size w0 W) (o : Nat) (v : Value) (HB : Blk w4 R us) (ho : o < us.length) (e : us.set o v = rdVals vr vz vl ln st en wv) (SA : SrcAt w4 hi S vr vz vl) (K : Keep hi R W w4) :
    Rds w0 R hi S vr vz vl ln st en wv (w4.setCell ⟨R, o, none⟩ v) ∧ Keep hi R W (w4.setCell ⟨R, o, none⟩ v) :=
  ⟨⟨ge, lt, by have := K.size; simp [World.setCell]; omega, (K.set o v).below hb ge lt, HB.upd o v ho _ e, SA.gr (Gr.set w4 o v) lt⟩, K.set o v⟩
theorem link_info : (Tryz.prog.info? 59).map (fun i => (i.zero, i.size, i.bytes)) = some (some (.agg #[.string ⟨#[]⟩, .string ⟨#[]⟩]), 2, 32) := by kernel_rfl
theorem link_core (w0 : World) (R hi : Nat) (V : World) (S : Sr) (vr vz : Value) (Al : Option Addr) (nl cl : Nat) (ln st en : Int) (t1 t2 : ByteArray) (a1 a2 : Int) (v1 v2 : ByteArray) (x1 x2 : Int)
    (T1 : Hid (TkN w0 R V vr vz (.slice Al nl cl) ln st en 20 t1 a1 [(t2, a2)] v1 x1)) (T2 : Hid (TkN w0 R V vr vz (.slice Al nl cl) ln st en 20 t2 a2 [] v2 x2)) (lt : R < hi) (hiV : hi ≤ V.heap.size)
    (W : World) (h : Rdr w0 R V vr vz (.slice Al nl cl) ln st en [(t1, a1), (t2, a2)] W) (SA : SrcAt W hi S vr vz (.slice Al nl cl)) (hn : S.links.length = nl) (hn9 : nl ≤ 1000) :
    Calls Tryz.prog 113 #[.pointer (some ⟨R, 0, none⟩)] W (Out w0 (orF (chk (decide ((nl : Int) < 100)) (12, ln, st)) (orF (x1, ln, a1) (x2, ln, a2))) (LnOk w0 R hi ⟨S.rules, S.zones, S.links ++ [⟨v1, v2⟩]⟩ ln st en W)) := by
  obtain ⟨i0, hi0, hz0, hz1, hz2⟩ := info_partsS link_info
  have NM := Lib.hid (nameP 20)
  have RM := Lib.hid (fun X => roomP w0 R vr vz (.slice Al nl cl) ln st en [(t1, a1), (t2, a2)] nl 100 V X)
  have SZ := Lib.hid (fun X => sizedP w0 R vr vz (.slice Al nl cl) ln st en [(t1, a1), (t2, a2)] 2 2 (by decide) (by decide) V X)
  have ge := h.ge
  have szV := h.gr.size
  have H0 := Lib.hid h
  have HBW := Lib.hid h.hb
  have SA0 := Lib.hid SA
  have HN := Lib.hid hn
  obtain ⟨A, n, c, hB, hW⟩ := h.at_
  obtain ⟨ltR, ⟨c0, c1, c2, c3, c4, c5, c6⟩, _⟩ := hB.sevenR
  have szw := h.hb.size
  clear h hB hW SA hn
  go_enter Tryz.func113, Tryz.ntmps113
  go_wp2_with fail
  refine (RM.out _ H0.out).mono ?_
  rintro e w1 (⟨hx, rfl, hb⟩ | ⟨hx0, rfl, rfl⟩)
  · exact ⟨rfl, .inl ⟨by rw [orF_yes hx]; exact hx, by rw [orF_yes hx]; exact ⟨rfl, hb⟩⟩⟩
  have X0 := Lib.hid hx0
  clear hx0 RM
  go_wp2_with fail
  refine (SZ.out _ H0.out).mono ?_
  rintro e w1 (⟨hx, rfl, hb⟩ | ⟨hx0, rfl, rfl⟩)
  · exact absurd (show (szFlt [(t1, a1), (t2, a2)] en ln 2 2).1 = 0 from rfl) hx
  clear hx0 SZ
  go_wp2_with (go_at_call 141; refine (NM.out _).mono ?_; rintro e w' ⟨rfl, rfl⟩)
  have b1 := below_box W (.cells #[.string ⟨#[]⟩, .string ⟨#[]⟩] 59)
  have b2 := below_box (W.alloc (.cells #[.string ⟨#[]⟩, .string ⟨#[]⟩] 59)) (.cells #[.func (.func 20) #[] #[]] 34)
  have kx := (Blk.new2 W (.string ⟨#[]⟩) (.string ⟨#[]⟩) 59).more (.cells #[.func (.func 20) #[] #[]] 34)
  have kb := blk_lit (W.alloc (.cells #[.string ⟨#[]⟩, .string ⟨#[]⟩] 59)) 34 [.func (.func 20) #[] #[]]
  rw [World.size_alloc] at kb
  have szb : ((W.alloc (.cells #[.string ⟨#[]⟩, .string ⟨#[]⟩] 59)).alloc (.cells #[.func (.func 20) #[] #[]] 34)).heap.size = W.heap.size + 2 := by simp
  refine (T1.out (W.heap.size + 1) _ ((H0.out.below b1).below b2) (by omega) kb.one.2.1 (by rw [szb]; omega)).mono ?_
  have G1 := Lib.hid ((Gr.of_below (R := R) b1).trans (Gr.of_below b2))
  have KX := Lib.hid kx
  clear b1 b2 kx kb H0 T1
  rintro e w1 (⟨hx, rfl, hb⟩ | ⟨hx1, rfl, hr, hg⟩)
  · exact ⟨rfl, .inl ⟨by rw [orF_no X0.out, orF_yes hx]; exact hx, by rw [orF_no X0.out, orF_yes hx]; exact ⟨rfl, hb⟩⟩⟩
  have X1 := Lib.hid hx1
  have H1 := Lib.hid hr
  have sz1 := hg.size
  rw [szb] at sz1
  have kx1 := KX.out.gr hg (by omega)
  have KX1 := Lib.hid kx1
  have G2 := Lib.hid (G1.out.trans hg)
  clear hr hg hx1 G1 KX szb
  obtain ⟨ltx, e0, e1, f0, f1⟩ := kx1.two
  clear kx1
  go_wp2_with (go_at_call 141; refine (NM.out _).mono ?_; rintro e w' ⟨rfl, rfl⟩)
  have hs := H1.out.store (b := W.heap.size) (by omega) (by omega) (by omega) 0 (.string v1)
  have b1 := below_box (w1.setCell ⟨W.heap.size, 0, none⟩ (.string v1)) (.cells #[.func (.func 20) #[] #[]] 34)
  have kx2 := (KX1.out.upd 0 (.string v1) (by simp) [.string v1, .string ⟨#[]⟩] rfl).more (.cells #[.func (.func 20) #[] #[]] 34)
  have kb := blk_lit (w1.setCell ⟨W.heap.size, 0, none⟩ (.string v1)) 34 [.func (.func 20) #[] #[]]
  have szs : (w1.setCell ⟨W.heap.size, 0, none⟩ (.string v1)).heap.size = w1.heap.size := by simp [World.setCell]
  rw [szs] at kb
  have szb : ((w1.setCell ⟨W.heap.size, 0, none⟩ (.string v1)).alloc (.cells #[.func (.func 20) #[] #[]] 34)).heap.size = w1.heap.size + 1 := by simp
  refine (T2.out w1.heap.size _ (hs.below b1) (by omega) kb.one.2.1 (by rw [szb]; omega)).mono ?_
  have G3 := Lib.hid ((G2.out.store (b := W.heap.size) (Nat.le_refl _) 0 (.string v1)).trans (Gr.of_below b1))
  have KX2 := Lib.hid kx2
  clear hs b1 kx2 kb szs H1 T2 G2 KX1 e0 e1 f0 f1
  rintro e w2 (⟨hx, rfl, hb⟩ | ⟨hx2, rfl, hr, hg⟩)
  · exact ⟨rfl, .inl ⟨by rw [orF_no X0.out, orF_no X1.out]; exact hx, by rw [orF_no X0.out, orF_no X1.out]; exact ⟨rfl, hb⟩⟩⟩
  have X2 := Lib.hid hx2
  have H2 := Lib.hid hr
  have sz2 := hg.size
  rw [szb] at sz2
  have kx3 := KX2.out.gr hg (by omega)
  have G4 := Lib.hid (G3.out.trans hg)
  clear hr hg hx2 G3 KX2 szb
  obtain ⟨lty, e0, e1, f0, f1⟩ := kx3.two
  have KX3 := Lib.hid kx3
  clear kx3
  go_upto_region 5 with (fail)
  have H3 := Lib.hid (H2.out.store (b := W.heap.size) (by omega) (by omega) (by omega) 1 (.string v2))
  have G5 := Lib.hid (G4.out.store (b := W.heap.size) (Nat.le_refl _) 1 (.string v2))
  have kx4 := KX3.out.upd 1 (.string v2) (by simp) [.string v1, .string v2] rfl
  have sz3 : (w2.setCell ⟨W.heap.size, 1, none⟩ (.string v2)).heap.size = w2.heap.size := by simp [World.setCell]
  rw [← sz3] at sz2
  clear H2 G4 KX3 e0 e1 f0 f1 lty sz3
  generalize w2.setCell ⟨W.heap.size, 1, none⟩ (.string v2) = w3 at *
  obtain ⟨ltz, e0, e1, f0, f1⟩ := kx4.two
  clear kx4
  have ow := (SA0.out.gr G5.out lt).links
  rw [HN.out] at ow
  have OW := Lib.hid ow
  clear ow
  obtain ⟨A', n', c', hB2, hW2⟩ := H3.out.at_
  obtain ⟨ltr, ⟨s0, s1, s2, s3, s4, s5, s6⟩, ⟨u0, u1, u2, u3, u4, u5, u6⟩⟩ := hB2.sevenR
  have HB2 := Lib.hid hB2
  clear hB2 hW2
  have NB := Lib.hid (blk_lit w3 59 [.string v1, .string v2])
  have ON := Lib.hid (show ∀ u ∈ ([.string v1, .string v2] : List Value), u.oneCell' = true from fun u hu => by
    simp only [List.mem_cons, List.not_mem_nil, or_false] at hu
    rcases hu with rfl | rfl <;> rfl)
  have Z2 : (Value.agg #[.string ⟨#[]⟩, .string ⟨#[]⟩]).cells.size = 2 := rfl
  have TT := fun (w : World) (ops : Array Oper) (o : Oper) (a : Act) (K : Act → World → Prop) (Q : Exit → Act → World → Prop) (E : Prop) (hgd : o.guard = none) (ho : o.op = Op.call { callee := Callee.builtin Builtin.append, args := #[.tmp 26, .tmp 28], argTypes := #[24, 24] }) => step_append_lies (P := Tryz.prog) w (ops := ops) (a := a) (K := K) (Q := Q) (E := E) hgd (.tmp 26) (.tmp 28) 24 ho hi 59 i0 _ 2 32 Tryz.underlying24 hi0 hz0 hz1 hz2 Z2 (by decide) (.slice Al nl cl) nl (S.links.flatMap Lk.vals)
  have HT := Lib.hid TT
  clear TT Z2
  have NL := Lib.hid hn9
  have M1 : nl + 1 ≤ maxLen := by unfold maxLen; omega
  have M2 : (nl + 1) * 32 ≤ 140737488355328 := by omega
  have M3 : hi ≤ w3.heap.size + 1 := by omega
  have NE := Lib.hid (fun (X w4 : World) (g cap : Nat) (HX : Below w3.heap.size w3 X) (hX : X.heap.size = w3.heap.size + 1) (hown : w4.ownsRow hi 59 2 (.slice (some ⟨g, 0, none⟩) (nl + 1) cap) (nl + 1) (S.links.flatMap Lk.vals ++ [.string v1, .string v2])) (hgrow : X.grownBy w4 (Value.slice Al nl cl).ownBlock) (hat : (Value.slice Al nl cl).ownBlock = some g ∨ g = w3.heap.size + 1) =>
    grew_link G5.out SA0.out lt (by omega) HN.out HB2.out HX hX ⟨v1, v2⟩ g cap hown hgrow hat)
  have FIN := Lib.hid (fun (w4 : World) (g cap : Nat) (k : Blk w4 R (rdVals vr vz (.slice Al nl cl) ln st en (.slice A' n' c'))) (SA : SrcAt w4 hi ⟨S.rules, S.zones, S.links ++ [⟨v1, v2⟩]⟩ vr vz (.slice (some ⟨g, 0, none⟩) (nl + 1) cap)) (K : Keep hi R W w4) => Rds.stored ge lt (by omega) HBW.out 2 (.slice (some ⟨g, 0, none⟩) (nl + 1) cap) k (by simp [rdVals]) rfl SA K)
  go_region_law ((refine HT.out _ _ _ _ _ _ _ (by rfl) (by rfl) (by rfl) (by repeat (first | with_reducible exact OW.out | with_reducible refine World.ownsRow.drew ?_ | with_reducible refine World.ownsRow.alloc ?_ _)) ⟨w3.heap.size, 0, none⟩ 1 1 [.string v1, .string v2] (by rfl) rfl (blk_news (by repeat (first | with_reducible exact NB.out | with_reducible refine Blk.drew ?_))) ON.out (by decide) M1 M2 (by simpa using M3) (w3.heap.size + 1) (by simp) ?_; intro g cap w4 hown hgrow hat hlt; obtain ⟨k4, sa4, kp4⟩ := NE.out _ w4 g cap (by repeat (first | with_reducible exact Below.refl _ _ | with_reducible refine Below.drew ?_ | with_reducible refine Below.alloc ?_ (Nat.le_refl _) _)) (by simp) hown hgrow hat; have F4 := Lib.hid (FIN.out w4 g cap k4 sa4 kp4); obtain ⟨lt4, ⟨_, _, q2, _⟩, ⟨_, _, z2, _⟩⟩ := k4.sevenR; clear sa4 kp4 k4 hown hgrow hat))
  all_goals go_wp2
  all_goals go_end0
  all_goals exact .inr ⟨by rw [orF_no X0.out, orF_no X1.out]; exact X2.out, rfl, _, _, _, _, F4.out.1, F4.out.2⟩
def ErC (w0 : World) (R : Nat) (V : World) (vr vz vl : Value) (ln st en : Int) (l : List (ByteArray × Int)) (f : Flt) (x : Er) : Prop := ∀ X, Rdr w0 R V vr vz vl ln st en l X →
  Calls Tryz.prog 110 #[.pointer (some ⟨R, 0, none⟩)] X (Out w0 f fun e W' => e = .returned x.val ∧ Rdr w0 R V vr vz vl ln st en [] W' ∧ Gr R X W')
theorem zone_inf : (Tryz.prog.info? 55).map (fun i => (i.zero, i.size, i.bytes)) = some (some (.agg #[.string ⟨#[]⟩, .slice none 0 0]), 2, 40) := by kernel_rfl
theorem own_same {w : World} {base : Nat} {e : TypeId} {size n : Nat} {v : Value} {xs ys : List Value} (h : w.ownsRow base e size v n xs) (k : w.ownsRow base e size v n ys) : xs = ys := by
  rcases h.2 with ⟨a, b⟩ | ⟨g, cap, cur, a, _, c, _, _, _, d⟩
  · have h1 := h.1
    have k1 := k.1
    rw [b, Nat.zero_mul] at h1 k1
    rw [List.eq_nil_of_length_eq_zero h1, List.eq_nil_of_length_eq_zero k1]
  · rcases k.2 with ⟨a', _⟩ | ⟨g', cap', cur', a', _, c', _, _, _, d'⟩
    · rw [a] at a'; cases a'
    · rw [a] at a'
      cases a'
      rw [c] at c'
      cases c'
      rw [← d, ← d']
theorem SrcAt.zonesA {W : World} {hi : Nat} {S : Sr} {vr vz vl : Value} (h : SrcAt W hi S vr vz vl) : ∃ xs, W.ownsRow hi 55 2 vz S.zones.length xs := by
  obtain ⟨ze, e, o⟩ := h
  have hl : ze.length = S.zones.length := by rw [← e, List.length_map]
  have := o.own (zonesO vz ze) (List.mem_cons_of_mem _ (List.mem_cons_of_mem _ (List.mem_cons_self ..)))
  unfold Own.own zonesO at this
  rw [hl] at this
  exact ⟨_, this⟩
theorem one_era (W : World) (hi : Nat) (hh : hi ≤ W.heap.size) (x : Er) : (W.alloc (.cells x.vals.toArray 52)).ownsRow hi 52 13 (.slice (some ⟨W.heap.size, 0, none⟩) 1 1) 1 x.vals := by
  refine ⟨rfl, .inr ⟨W.heap.size, 1, x.vals.toArray, rfl, hh, World.alloc_heap_new W _, Nat.le_refl _, by unfold maxLen; decide, rfl, rfl⟩⟩
theorem grew_zone {W w2 X w4 : World} {R hi : Nat} {S : Sr} {vr vl : Value} {Az : Option Addr} {nz cz : Nat} {vs : List Value} (G2 : Gr R W w2) (SA : SrcAt W hi S vr (.slice Az nz cz) vl) (lt : R < hi) (le : hi ≤ W.heap.size) (HN : S.zones.length = nz) (HB : Blk w2 R vs) (x : Er) (HX : Below (w2.heap.size + 1) (w2.alloc (.cells x.vals.toArray 52)) X) (hX : X.heap.size = w2.heap.size + 2)
    (nm : ByteArray) (g cap : Nat) (xs : List Value) (hxs : w2.ownsRow hi 55 2 (.slice Az nz cz) nz xs)
    (hown : w4.ownsRow hi 55 2 (.slice (some ⟨g, 0, none⟩) (nz + 1) cap) (nz + 1) (xs ++ [.string nm, .slice (some ⟨w2.heap.size, 0, none⟩) 1 1])) (hgrow : X.grownBy w4 (Value.slice Az nz cz).ownBlock) (hat : (Value.slice Az nz cz).ownBlock = some g ∨ g = w2.heap.size + 2) :
    Blk w4 R vs ∧ SrcAt w4 hi ⟨S.rules, S.zones ++ [⟨nm, [x]⟩], S.links⟩ vr (.slice (some ⟨g, 0, none⟩) (nz + 1) cap) vl ∧ Keep hi R W w4 := by
  have sz2 := G2.size
  have S2 := SA.gr G2 lt
  have lo : ∀ r, (Value.slice Az nz cz).ownBlock = some r → hi ≤ r := fun r e => (hxs.lt r e).1
  have bA := below_box w2 (.cells x.vals.toArray 52)
  have szA : (w2.alloc (.cells x.vals.toArray 52)).heap.size = w2.heap.size + 1 := by simp
  have HX' : Below (w2.alloc (.cells x.vals.toArray 52)).heap.size (w2.alloc (.cells x.vals.toArray 52)) X := by rw [szA]; exact HX
  have B2 : Below w2.heap.size w2 X := below_thru bA HX'
  have oe := (one_era w2 hi (by omega) x).kept (below_own HX') (.inr (by intro c; cases c))
  refine ⟨blk_grown hgrow (fun r e => by have := lo r e; omega) (HB.below B2), ?_, ?_⟩
  · refine S2.zone nm x (below_own B2) oe (fun k e => by cases e; exact Nat.le_refl _) (fun ze e ow => ?_) hgrow ?_
    · have hl : ze.length = nz := by rw [← HN, ← e, List.length_map]
      have e2 := hxs.kept (below_own B2) (by cases q : (Value.slice Az nz cz).ownBlock with | none => exact .inl rfl | some k => exact .inr (by intro c; cases c))
      rw [hl] at ow ⊢
      rw [← own_same e2 ow]
      exact hown
    · rcases hat with h | h
      · exact .inl h.symm
      · exact .inr (by rw [hX, ← h]; rfl)
  · exact ((Keep.of_gr G2 le).trans (Keep.of_gr (Gr.of_below B2) (by omega))).trans (Keep.grown hgrow (by omega) fun r e => .inl (lo r e))
theorem zone_core (w0 : World) (R hi : Nat) (V : World) (S : Sr) (vr vl : Value) (Az : Option Addr) (nz cz : Nat) (ln st en : Int) (t1 : ByteArray) (a1 : Int) (l : List (ByteArray × Int)) (l3 : 3 ≤ l.length) (l7 : l.length ≤ 7) (v1 : ByteArray) (x1 : Int) (F : Flt) (off k s y mo ki wd da ti re : Int) (r f : ByteArray) (til : Bool)
    (T1 : Hid (TkN w0 R V vr (.slice Az nz cz) vl ln st en 20 t1 a1 l v1 x1)) (T2 : Hid (ErC w0 R V vr (.slice Az nz cz) vl ln st en l F ⟨off, k, s, r, f, til, y, ⟨mo, ki, wd, da, ti, re⟩⟩)) (lt : R < hi) (hiV : hi ≤ V.heap.size)
    (W : World) (h : Rdr w0 R V vr (.slice Az nz cz) vl ln st en ((t1, a1) :: l) W) (SA : SrcAt W hi S vr (.slice Az nz cz) vl) (hn : S.zones.length = nz) (hn9 : nz ≤ 1000) :
    Calls Tryz.prog 112 #[.pointer (some ⟨R, 0, none⟩)] W (Out w0 (orF (chk (decide ((nz : Int) < 50)) (12, ln, st)) (orF (x1, ln, a1) F)) (LnOk w0 R hi ⟨S.rules, S.zones ++ [⟨v1, [⟨off, k, s, r, f, til, y, ⟨mo, ki, wd, da, ti, re⟩⟩]⟩], S.links⟩ ln st en W)) := by
  obtain ⟨i0, hi0, hz0, hz1, hz2⟩ := info_partsS zone_inf
  have NM := Lib.hid (nameP 20)
  have RM := Lib.hid (fun X => roomP w0 R vr (.slice Az nz cz) vl ln st en ((t1, a1) :: l) nz 50 V X)
  have SZ := Lib.hid (fun X => sizedP w0 R vr (.slice Az nz cz) vl ln st en ((t1, a1) :: l) 4 8 (by decide) (by decide) V X)
  have sN : szFlt ((t1, a1) :: l) en ln 4 8 = Flt.no := by unfold szFlt; rw [if_neg (by simp; omega), if_neg (by simp; omega)]
  rw [sN] at SZ
  have ge := h.ge
  have szV := h.gr.size
  have H0 := Lib.hid h
  have HBW := Lib.hid h.hb
  have SA0 := Lib.hid SA
  have HN := Lib.hid hn
  obtain ⟨A, n, c, hB, hW⟩ := h.at_
  obtain ⟨ltR, ⟨c0, c1, c2, c3, c4, c5, c6⟩, _⟩ := hB.sevenR
  have szw := h.hb.size
  clear h hB hW SA hn sN l3 l7
  go_enter Tryz.func112, Tryz.ntmps112
  go_wp2_with fail
  refine (RM.out _ H0.out).mono ?_
  rintro e w1 (⟨hx, rfl, hb⟩ | ⟨hx0, rfl, rfl⟩)
  · exact ⟨rfl, .inl ⟨by rw [orF_yes hx]; exact hx, by rw [orF_yes hx]; exact ⟨rfl, hb⟩⟩⟩
  have X0 := Lib.hid hx0
  clear hx0 RM
  go_wp2_with fail
  refine (SZ.out _ H0.out).mono ?_
  rintro e w1 (⟨hx, rfl, hb⟩ | ⟨hx0, rfl, rfl⟩)
  · exact absurd rfl hx
  clear hx0 SZ
  go_wp2_with (go_at_call 141; refine (NM.out _).mono ?_; rintro e w' ⟨rfl, rfl⟩)
  have b1 := below_box W (.cells #[.string ⟨#[]⟩, .slice none 0 0] 55)
  have b2 := below_box (W.alloc (.cells #[.string ⟨#[]⟩, .slice none 0 0] 55)) (.cells #[.func (.func 20) #[] #[]] 34)
  have kx := (Blk.new2 W (.string ⟨#[]⟩) (.slice none 0 0) 55).more (.cells #[.func (.func 20) #[] #[]] 34)
  have kb := blk_lit (W.alloc (.cells #[.string ⟨#[]⟩, .slice none 0 0] 55)) 34 [.func (.func 20) #[] #[]]
  rw [World.size_alloc] at kb
  have szb : ((W.alloc (.cells #[.string ⟨#[]⟩, .slice none 0 0] 55)).alloc (.cells #[.func (.func 20) #[] #[]] 34)).heap.size = W.heap.size + 2 := by simp
  refine (T1.out (W.heap.size + 1) _ ((H0.out.below b1).below b2) (by omega) kb.one.2.1 (by rw [szb]; omega)).mono ?_
  have G1 := Lib.hid ((Gr.of_below (R := R) b1).trans (Gr.of_below b2))
  have KX := Lib.hid kx
  clear b1 b2 kx kb H0 T1 NM
  rintro e w1 (⟨hx, rfl, hb⟩ | ⟨hx1, rfl, hr, hg⟩)
  · exact ⟨rfl, .inl ⟨by rw [orF_no X0.out, orF_yes hx]; exact hx, by rw [orF_no X0.out, orF_yes hx]; exact ⟨rfl, hb⟩⟩⟩
  have X1 := Lib.hid hx1
  have H1 := Lib.hid hr
  have sz1 := hg.size
  rw [szb] at sz1
  have kx1 := KX.out.gr hg (by omega)
  have KX1 := Lib.hid kx1
  have G2 := Lib.hid (G1.out.trans hg)
  clear hr hg hx1 G1 KX szb
  obtain ⟨ltx, e0, e1, f0, f1⟩ := kx1.two
  clear kx1
  unfold ErC Er.val Er.vals at T2
  dsimp only at T2
  go_wp2_with fail
  have hs := H1.out.store (b := W.heap.size) (by omega) (by omega) (by omega) 0 (.string v1)
  have kx2 := KX1.out.upd 0 (.string v1) (by simp) [.string v1, .slice none 0 0] rfl
  have szb : (w1.setCell ⟨W.heap.size, 0, none⟩ (.string v1)).heap.size = w1.heap.size := by simp [World.setCell]
  refine (T2.out _ hs).mono ?_
  have G3 := Lib.hid (G2.out.store (b := W.heap.size) (Nat.le_refl _) 0 (.string v1))
  have KX2 := Lib.hid kx2
  clear hs kx2 H1 T2 G2 KX1 e0 e1 f0 f1
  rintro e w2 (⟨hx, rfl, hb⟩ | ⟨hx2, rfl, hr, hg⟩)
  · exact ⟨rfl, .inl ⟨by rw [orF_no X0.out, orF_no X1.out]; exact hx, by rw [orF_no X0.out, orF_no X1.out]; exact ⟨rfl, hb⟩⟩⟩
  have X2 := Lib.hid hx2
  have H2 := Lib.hid hr
  have sz2 := hg.size
  rw [szb] at sz2
  have kx3 := KX2.out.gr hg (by omega)
  have G4 := Lib.hid (G3.out.trans hg)
  clear hr hg hx2 G3 KX2 szb
  obtain ⟨lty, e0, e1, f0, f1⟩ := kx3.two
  have KX3 := Lib.hid kx3
  clear kx3
  go_upto_region 5 with (fail)
  have H3 := Lib.hid (H2.out.store (b := W.heap.size) (by omega) (by omega) (by omega) 1 (.slice (some ⟨w2.heap.size, 0, none⟩) 1 1))
  have G5 := Lib.hid (G4.out.store (b := W.heap.size) (Nat.le_refl _) 1 (.slice (some ⟨w2.heap.size, 0, none⟩) 1 1))
  have kx4 := KX3.out.upd 1 (.slice (some ⟨w2.heap.size, 0, none⟩) 1 1) (by simp) [.string v1, .slice (some ⟨w2.heap.size, 0, none⟩) 1 1] rfl
  have sz3 : (w2.setCell ⟨W.heap.size, 1, none⟩ (.slice (some ⟨w2.heap.size, 0, none⟩) 1 1)).heap.size = w2.heap.size := by simp [World.setCell]
  clear H2 G4 KX3 e0 e1 f0 f1
  generalize hW2 : w2.setCell ⟨W.heap.size, 1, none⟩ (.slice (some ⟨w2.heap.size, 0, none⟩) 1 1) = w3 at *
  clear hW2
  rw [← sz3] at sz2 lty
  rw [← sz3] at kx4
  generalize hm : w2.heap.size = m at *
  clear hm
  obtain ⟨zs, hzs⟩ := (SA0.out.gr G5.out lt).zonesA
  rw [HN.out] at hzs
  obtain ⟨A', n', c', hB2, hW2⟩ := H3.out.at_
  have OW := Lib.hid (hzs.alloc (.cells #[.int .i64 off, .int .i64 k, .int .i64 s, .string r, .string f, .bool til, .int .i64 y, .int .i64 mo, .int .i64 ki, .int .i64 wd, .int .i64 da, .int .i64 ti, .int .i64 re] 52))
  have HZS := Lib.hid hzs
  have HB2 := Lib.hid hB2
  have KX4 := Lib.hid (kx4.more (.cells #[.int .i64 off, .int .i64 k, .int .i64 s, .string r, .string f, .bool til, .int .i64 y, .int .i64 mo, .int .i64 ki, .int .i64 wd, .int .i64 da, .int .i64 ti, .int .i64 re] 52))
  have kR := hB2.more (.cells #[.int .i64 off, .int .i64 k, .int .i64 s, .string r, .string f, .bool til, .int .i64 y, .int .i64 mo, .int .i64 ki, .int .i64 wd, .int .i64 da, .int .i64 ti, .int .i64 re] 52)
  clear hB2 hW2 hzs kx4
  have szA : (w3.alloc (.cells #[.int .i64 off, .int .i64 k, .int .i64 s, .string r, .string f, .bool til, .int .i64 y, .int .i64 mo, .int .i64 ki, .int .i64 wd, .int .i64 da, .int .i64 ti, .int .i64 re] 52)).heap.size = w3.heap.size + 1 := by simp
  subst sz3
  have HNE := Lib.hid (fun (X w4 : World) (g cap : Nat) (HX : Below (w3.alloc (.cells #[.int .i64 off, .int .i64 k, .int .i64 s, .string r, .string f, .bool til, .int .i64 y, .int .i64 mo, .int .i64 ki, .int .i64 wd, .int .i64 da, .int .i64 ti, .int .i64 re] 52)).heap.size (w3.alloc (.cells #[.int .i64 off, .int .i64 k, .int .i64 s, .string r, .string f, .bool til, .int .i64 y, .int .i64 mo, .int .i64 ki, .int .i64 wd, .int .i64 da, .int .i64 ti, .int .i64 re] 52)) X) (hX : X.heap.size = (w3.alloc (.cells #[.int .i64 off, .int .i64 k, .int .i64 s, .string r, .string f, .bool til, .int .i64 y, .int .i64 mo, .int .i64 ki, .int .i64 wd, .int .i64 da, .int .i64 ti, .int .i64 re] 52)).heap.size + 1) (hown : w4.ownsRow hi 55 2 (.slice (some ⟨g, 0, none⟩) (nz + 1) cap) (nz + 1) (zs ++ [.string v1, .slice (some ⟨w3.heap.size, 0, none⟩) 1 1])) (hgrow : X.grownBy w4 (Value.slice Az nz cz).ownBlock) (hat : (Value.slice Az nz cz).ownBlock = some g ∨ g = (w3.alloc (.cells #[.int .i64 off, .int .i64 k, .int .i64 s, .string r, .string f, .bool til, .int .i64 y, .int .i64 mo, .int .i64 ki, .int .i64 wd, .int .i64 da, .int .i64 ti, .int .i64 re] 52)).heap.size + 1) =>
    grew_zone G5.out SA0.out lt (by omega) HN.out HB2.out ⟨off, k, s, r, f, til, y, ⟨mo, ki, wd, da, ti, re⟩⟩ (by rw [szA] at HX; exact HX) (by rw [szA] at hX; exact hX) v1 g cap zs HZS.out hown hgrow (by rw [szA] at hat; exact hat))
  have FIN := Lib.hid (fun (w4 : World) (g cap : Nat) (kk : Blk w4 R (rdVals vr (.slice Az nz cz) vl ln st en (.slice A' n' c'))) (SA : SrcAt w4 hi ⟨S.rules, S.zones ++ [⟨v1, [⟨off, k, s, r, f, til, y, ⟨mo, ki, wd, da, ti, re⟩⟩]⟩], S.links⟩ vr (.slice (some ⟨g, 0, none⟩) (nz + 1) cap) vl) (K : Keep hi R W w4) => Rds.stored ge lt (by omega) HBW.out 1 (.slice (some ⟨g, 0, none⟩) (nz + 1) cap) kk (by simp [rdVals]) rfl SA K)
  have NB := Lib.hid (blk_lit (w3.alloc (.cells #[.int .i64 off, .int .i64 k, .int .i64 s, .string r, .string f, .bool til, .int .i64 y, .int .i64 mo, .int .i64 ki, .int .i64 wd, .int .i64 da, .int .i64 ti, .int .i64 re] 52)) 55 [.string v1, .slice (some ⟨w3.heap.size, 0, none⟩) 1 1])
  have M3 : hi ≤ (w3.alloc (.cells #[.int .i64 off, .int .i64 k, .int .i64 s, .string r, .string f, .bool til, .int .i64 y, .int .i64 mo, .int .i64 ki, .int .i64 wd, .int .i64 da, .int .i64 ti, .int .i64 re] 52)).heap.size + 1 := by rw [szA]; omega
  have szz : w3.heap.size < (w3.alloc (.cells #[.int .i64 off, .int .i64 k, .int .i64 s, .string r, .string f, .bool til, .int .i64 y, .int .i64 mo, .int .i64 ki, .int .i64 wd, .int .i64 da, .int .i64 ti, .int .i64 re] 52)).heap.size := by rw [szA]; omega
  clear szA
  generalize w3.alloc (.cells #[.int .i64 off, .int .i64 k, .int .i64 s, .string r, .string f, .bool til, .int .i64 y, .int .i64 mo, .int .i64 ki, .int .i64 wd, .int .i64 da, .int .i64 ti, .int .i64 re] 52) = w5 at *
  obtain ⟨ltr, ⟨s0, s1, s2, s3, s4, s5, s6⟩, ⟨u0, u1, u2, u3, u4, u5, u6⟩⟩ := kR.sevenR
  have kx4 := KX4.out
  obtain ⟨ltz, e0, e1, f0, f1⟩ := kx4.two
  clear kx4 kR
  have ON := Lib.hid (show ∀ u ∈ ([.string v1, .slice (some ⟨w3.heap.size, 0, none⟩) 1 1] : List Value), u.oneCell' = true from fun u hu => by
    simp only [List.mem_cons, List.not_mem_nil, or_false] at hu
    rcases hu with rfl | rfl <;> rfl)
  have Z2 : (Value.agg #[.string ⟨#[]⟩, .slice none 0 0]).cells.size = 2 := rfl
  have TT := fun (w : World) (ops : Array Oper) (o : Oper) (a : Act) (K : Act → World → Prop) (Q : Exit → Act → World → Prop) (E : Prop) (hgd : o.guard = none) (ho : o.op = Op.call { callee := Callee.builtin Builtin.append, args := #[.tmp 26, .tmp 28], argTypes := #[23, 23] }) => step_append_lies (P := Tryz.prog) w (ops := ops) (a := a) (K := K) (Q := Q) (E := E) hgd (.tmp 26) (.tmp 28) 23 ho hi 55 i0 _ 2 40 Tryz.underlying23 hi0 hz0 hz1 hz2 Z2 (by decide) (.slice Az nz cz) nz zs
  have HT := Lib.hid TT
  clear TT Z2
  have M1 : nz + 1 ≤ maxLen := by unfold maxLen; omega
  have M2 : (nz + 1) * 40 ≤ 140737488355328 := by omega
  go_region_law ((refine HT.out _ _ _ _ _ _ _ (by rfl) (by rfl) (by rfl) (by repeat (first | with_reducible exact OW.out | with_reducible refine World.ownsRow.drew ?_ | with_reducible refine World.ownsRow.alloc ?_ _)) ⟨w5.heap.size, 0, none⟩ 1 1 [.string v1, .slice (some ⟨w3.heap.size, 0, none⟩) 1 1] (by rfl) rfl (blk_news (by repeat (first | with_reducible exact NB.out | with_reducible refine Blk.drew ?_))) ON.out (by decide) M1 M2 (by simpa using M3) (w5.heap.size + 1) (by simp) ?_; intro g cap w4 hown hgrow hat hlt; obtain ⟨k4, sa4, kp4⟩ := HNE.out _ w4 g cap (by repeat (first | with_reducible exact Below.refl _ _ | with_reducible refine Below.drew ?_ | with_reducible refine Below.alloc ?_ (Nat.le_refl _) _)) (by simp) hown hgrow hat; have F4 := Lib.hid (FIN.out w4 g cap k4 sa4 kp4); obtain ⟨lt4, ⟨_, q1, _⟩, ⟨_, z1, _⟩⟩ := k4.sevenR; clear sa4 kp4 k4 hown hgrow hat))
  all_goals go_wp2
  all_goals go_end0
  all_goals exact .inr ⟨by rw [orF_no X0.out, orF_no X1.out]; exact X2.out, rfl, _, _, _, _, F4.out.1, F4.out.2⟩
theorem own_frozen {w : World} {base : Nat} {e : TypeId} {size n c g : Nat} {xs : List Value} (h : w.ownsRow base e size (.slice (some ⟨g, 0, none⟩) n c) n xs) (i : Nat) : w.frozen? ⟨g, i, none⟩ = false := by
  rcases h.2 with ⟨a, _⟩ | ⟨g', cap, cur, a, _, hh, _⟩
  · cases a
  · cases a
    unfold World.frozen?
    rw [hh]
    simp
theorem own_cell {w : World} {base : Nat} {e : TypeId} {size n c g : Nat} {xs : List Value} (h : w.ownsRow base e size (.slice (some ⟨g, 0, none⟩) n c) n xs) (i : Nat) (v : Value) (hv : xs[i]? = some v) : w.cell? ⟨g, i, none⟩ = some v := by
  have := h.cells (g := g) rfl i v hv
  have ea : ((⟨g, 0, none⟩ : Addr).add i) = ⟨g, i, none⟩ := by
    unfold Addr.add
    by_cases z : i = 0
    · subst z; simp
    · simp [z]
  rwa [ea] at this
theorem zone_at (ze : List (Zn × Value)) (z : Zn) (v0 : Value) : ((ze ++ [(z, v0)]).flatMap fun p => p.1.vals p.2)[2 * ze.length + 1]? = some v0 := by
  have hl : (ze.flatMap fun p => p.1.vals p.2).length = 2 * ze.length := by
    induction ze with
    | nil => rfl
    | cons p r ih => rw [List.flatMap_cons, List.length_append, ih, List.length_cons]; show 2 + _ = _; omega
  rw [List.flatMap_append, List.getElem?_append_right (by omega), hl, show 2 * ze.length + 1 - 2 * ze.length = 1 by omega]
  rfl
def lastRows (vr vz vl v0 : Value) (S : Sr) (z : Zn) (ze : List (Zn × Value)) : List Own := erasO v0 z.eras :: zonesO vz (ze ++ [(z, v0)]) :: rulesO vr S.rules :: linksO vl S.links :: ze.map fun p => erasO p.2 p.1.eras
theorem OwnAll.gr {W W' : World} {R hi : Nat} {L : List Own} (h : OwnAll W hi L) (g : Gr R W W') (lt : R < hi) : OwnAll W' hi L := ⟨fun r hr => (h.own r hr).kept g (by
    cases q : r.v.ownBlock with
    | none => exact .inl rfl
    | some k =>
      right
      intro c
      have ek := Option.some.inj c
      have := (World.ownsRow.lt (h.own r hr) k q).1
      omega), h.apart⟩
theorem grew_era {W w2 X w4 : World} {R hi gz q cz : Nat} {S : Sr} {Z : List Zn} {z : Zn} {ze : List (Zn × Value)} {vr vl : Value} {Ae : Option Addr} {ne ce : Nat} {vs : List Value} (G2 : Gr R W w2) (eZ : ze.map (·.1) = Z) (hq : q = ze.length) (a : OwnAll W hi (lastRows vr (.slice (some ⟨gz, 0, none⟩) (q + 1) cz) vl (.slice Ae ne ce) S z ze)) (lt : R < hi) (le : hi ≤ W.heap.size) (hne : z.eras.length = ne) (HB : Blk w2 R vs) (HX : Below w2.heap.size w2 X) (hX : X.heap.size = w2.heap.size + 1)
    (x : Er) (g cap : Nat) (hown : w4.ownsRow hi 52 13 (.slice (some ⟨g, 0, none⟩) (ne + 1) cap) (ne + 1) (z.eras.flatMap Er.vals ++ x.vals)) (hgrow : X.grownBy w4 (Value.slice Ae ne ce).ownBlock) (hat : (Value.slice Ae ne ce).ownBlock = some g ∨ g = w2.heap.size + 1) :
    Blk w4 R vs ∧ (gz < w4.heap.size ∧ gz ≠ R ∧ w4.cell? ⟨gz, 2 * q + 1, none⟩ = some (.slice Ae ne ce) ∧ w4.frozen? ⟨gz, 2 * q + 1, none⟩ = false) ∧
    SrcAt (w4.setCell ⟨gz, 2 * q + 1, none⟩ (.slice (some ⟨g, 0, none⟩) (ne + 1) cap)) hi ⟨S.rules, Z ++ [⟨z.name, z.eras ++ [x]⟩], S.links⟩ vr (.slice (some ⟨gz, 0, none⟩) (q + 1) cz) vl ∧ Keep hi R W (w4.setCell ⟨gz, 2 * q + 1, none⟩ (.slice (some ⟨g, 0, none⟩) (ne + 1) cap)) := by
  have sz2 := G2.size
  have a2 := (a.gr G2 lt).grown (below_own HX)
  have ow := a2.own _ (List.mem_cons_self ..)
  have oz := a2.own (zonesO (.slice (some ⟨gz, 0, none⟩) (q + 1) cz) (ze ++ [(z, .slice Ae ne ce)])) (List.mem_cons_of_mem _ (List.mem_cons_self ..))
  have lo : ∀ r, (Value.slice Ae ne ce).ownBlock = some r → hi ≤ r := fun r e => (World.ownsRow.lt ow r e).1
  have hz := (World.ownsRow.lt oz gz rfl)
  have at_ : (Value.slice (some ⟨g, 0, none⟩) (ne + 1) cap).ownBlock = (Value.slice Ae ne ce).ownBlock ∨ (Value.slice (some ⟨g, 0, none⟩) (ne + 1) cap).ownBlock = some X.heap.size := by
    rcases hat with h | h
    · exact .inl h.symm
    · exact .inr (by rw [hX, ← h]; rfl)
  have o' : w4.ownsRow hi 52 13 (.slice (some ⟨g, 0, none⟩) (ne + 1) cap) (z.eras.length + 1) (z.eras.flatMap Er.vals ++ x.vals) := by rw [hne]; exact hown
  have a4 := OwnAll.grew a2 (.slice (some ⟨g, 0, none⟩) (ne + 1) cap) (z.eras.length + 1) _ o' hgrow at_
  have oz4 := a4.own (zonesO (.slice (some ⟨gz, 0, none⟩) (q + 1) cz) (ze ++ [(z, .slice Ae ne ce)])) (List.mem_cons_of_mem _ (List.mem_cons_self ..))
  unfold Own.own zonesO at oz4
  rw [List.length_append, List.length_singleton, ← hq] at oz4
  have hgz : gz < w4.heap.size := (World.ownsRow.lt oz4 gz rfl).2
  have hzl := (World.ownsRow.lt oz4 gz rfl).1
  refine ⟨blk_grown hgrow (fun r e => by have := lo r e; omega) (HB.below HX), ⟨hgz, by omega, own_cell oz4 _ _ (by rw [hq]; exact zone_at ze z _), own_frozen oz4 _⟩, ?_, ?_⟩
  · have := SrcAt.era (S := S) (vr := vr) (vl := vl) eZ x a2 (by omega) o' hgrow at_
    rw [hq] at this ⊢
    exact this
  · have K := ((Keep.of_gr G2 le).trans (Keep.of_gr (Gr.of_below HX) (by omega))).trans (Keep.grown (R := R) hgrow (by omega) fun r e => .inl (lo r e))
    exact ⟨K.os, K.tape, K.output, by simpa [World.setCell] using K.size, fun k hk hn => (Below.heap_setCell w4 ⟨gz, 2 * q + 1, none⟩ _ k (by show k ≠ gz; omega)).trans (K.block k hk hn)⟩
theorem era_inf : (Tryz.prog.info? 52).map (fun i => (i.zero, i.size, i.bytes)) = some (some (.agg #[.int .i64 0, .int .i64 0, .int .i64 0, .string ⟨#[]⟩, .string ⟨#[]⟩, .bool false, .int .i64 0, .int .i64 0, .int .i64 0, .int .i64 0, .int .i64 0, .int .i64 0, .int .i64 0]), 13, 120) := by kernel_rfl
theorem further_core (w0 : World) (R hi : Nat) (V : World) (S : Sr) (Z : List Zn) (z : Zn) (ze : List (Zn × Value)) (vr vl : Value) (gz q cz : Nat) (Ae : Option Addr) (ne ce : Nat) (ln st en : Int) (l : List (ByteArray × Int)) (l3 : 3 ≤ l.length) (l7 : l.length ≤ 7) (F : Flt) (off k s y mo ki wd da ti re : Int) (r f : ByteArray) (til : Bool)
    (T2 : Hid (ErC w0 R V vr (.slice (some ⟨gz, 0, none⟩) (q + 1) cz) vl ln st en l F ⟨off, k, s, r, f, til, y, ⟨mo, ki, wd, da, ti, re⟩⟩)) (lt : R < hi) (hiV : hi ≤ V.heap.size) (eZ : ze.map (·.1) = Z) (hq : q = ze.length) (q9 : q ≤ 1000) (hne : z.eras.length = ne) (hn9 : ne ≤ 1000)
    (W : World) (h : Rdr w0 R V vr (.slice (some ⟨gz, 0, none⟩) (q + 1) cz) vl ln st en l W) (a : OwnAll W hi (lastRows vr (.slice (some ⟨gz, 0, none⟩) (q + 1) cz) vl (.slice Ae ne ce) S z ze)) :
    Calls Tryz.prog 76 #[.pointer (some ⟨R, 0, none⟩)] W (Out w0 (orF (chk (decide ((ne : Int) < 40)) (12, ln, st)) F) (LnOk w0 R hi ⟨S.rules, Z ++ [⟨z.name, z.eras ++ [⟨off, k, s, r, f, til, y, ⟨mo, ki, wd, da, ti, re⟩⟩]⟩], S.links⟩ ln st en W)) := by
  obtain ⟨i0, hi0, hz0, hz1, hz2⟩ := info_partsS era_inf
  have RM := Lib.hid (fun X => roomP w0 R vr (.slice (some ⟨gz, 0, none⟩) (q + 1) cz) vl ln st en l ne 40 V X)
  have SZ := Lib.hid (fun X => sizedP w0 R vr (.slice (some ⟨gz, 0, none⟩) (q + 1) cz) vl ln st en l 3 7 (by decide) (by decide) V X)
  have sN : szFlt l en ln 3 7 = Flt.no := by unfold szFlt; rw [if_neg (by omega), if_neg (by omega)]
  rw [sN] at SZ
  have ge := h.ge
  have szV := h.gr.size
  have H0 := Lib.hid h
  have HBW := Lib.hid h.hb
  have AA := Lib.hid a
  have AA0 := Lib.hid a
  have oz := a.own (zonesO (.slice (some ⟨gz, 0, none⟩) (q + 1) cz) (ze ++ [(z, .slice Ae ne ce)])) (List.mem_cons_of_mem _ (List.mem_cons_self ..))
  unfold Own.own zonesO at oz
  rw [List.length_append, List.length_singleton, ← hq] at oz
  have hgz := (World.ownsRow.lt oz gz rfl)
  have zc := own_cell oz (2 * q + 1) _ (by rw [hq]; exact zone_at ze z _)
  obtain ⟨A, n, c, hB, hW⟩ := h.at_
  obtain ⟨ltR, ⟨c0, c1, c2, c3, c4, c5, c6⟩, _⟩ := hB.sevenR
  have szw := h.hb.size
  have wr1 : wrap64 (((q : Int) + 1) - 1) = (q : Int) := by unfold wrap64; omega
  have wr2 : IntKind.i64.wrap (((q : Int) + 1) - 1) = (q : Int) := by rw [IntWalk.i64_in _ (by omega)]; omega
  have hlt2 := hgz.2
  have EZ := Lib.hid eZ
  have HQ := Lib.hid hq
  have HNE := Lib.hid hne
  have zc2 : W.cell? ⟨gz, q * 2 + 1, none⟩ = some (.slice Ae ne ce) := by rw [Nat.mul_comm]; exact zc
  have ZW := Lib.hid zc2
  clear h hB hW a oz hgz sN eZ hq hne l3 l7 zc
  go_enter Tryz.func76, Tryz.ntmps76
  go_wp2_with fail
  go_quiet (fail)
  have hb0 := below_drewN (Below.refl W.heap.size W) nq
  have H1 := Lib.hid (H0.out.below hb0)
  have AA1 := Lib.hid (AA.out.gr (Gr.of_below hb0) lt)
  have G1 := Lib.hid (Gr.of_below (R := R) hb0)
  have zc3 := (hb0.cell (p := ⟨gz, q * 2 + 1, none⟩) hlt2).trans zc2
  have sz1 : (W.drewN nq).heap.size = W.heap.size := by simp
  clear hb0 H0 AA zc2 c0 c1 c2 c3 c4 c5 c6
  generalize W.drewN nq = W1 at *
  go_wp2_with fail
  refine (RM.out _ H1.out).mono ?_
  rintro e w1 (⟨hx, rfl, hb⟩ | ⟨hx0, rfl, rfl⟩)
  · exact ⟨rfl, .inl ⟨by rw [orF_yes hx]; exact hx, by rw [orF_yes hx]; exact ⟨rfl, hb⟩⟩⟩
  have X0 := Lib.hid hx0
  clear hx0 RM
  go_wp2_with fail
  refine (SZ.out _ H1.out).mono ?_
  rintro e w1 (⟨hx, rfl, hb⟩ | ⟨hx0, rfl, rfl⟩)
  · exact absurd rfl hx
  clear hx0 SZ
  go_upto_region 3 with (fail)
  unfold ErC Er.val Er.vals at T2
  dsimp only at T2
  have hgR : gz ≠ R := by
    have := (World.ownsRow.lt (AA1.out.own (zonesO (.slice (some ⟨gz, 0, none⟩) (q + 1) cz) (ze ++ [(z, .slice Ae ne ce)])) (List.mem_cons_of_mem _ (List.mem_cons_self ..))) gz rfl).1
    omega
  have ow := AA1.out.own _ (List.mem_cons_self ..)
  unfold Own.own erasO at ow
  rw [HNE.out] at ow
  have OW := Lib.hid ow
  clear ow
  have ON := Lib.hid (show ∀ u ∈ ([.int .i64 off, .int .i64 k, .int .i64 s, .string r, .string f, .bool til, .int .i64 y, .int .i64 mo, .int .i64 ki, .int .i64 wd, .int .i64 da, .int .i64 ti, .int .i64 re] : List Value), u.oneCell' = true from fun u hu => by
    simp only [List.mem_cons, List.not_mem_nil, or_false] at hu
    rcases hu with rfl | rfl | rfl | rfl | rfl | rfl | rfl | rfl | rfl | rfl | rfl | rfl | rfl <;> rfl)
  have Z2 : (Value.agg #[.int .i64 0, .int .i64 0, .int .i64 0, .string ⟨#[]⟩, .string ⟨#[]⟩, .bool false, .int .i64 0, .int .i64 0, .int .i64 0, .int .i64 0, .int .i64 0, .int .i64 0, .int .i64 0]).cells.size = 13 := rfl
  have TT := fun (w : World) (ops : Array Oper) (o : Oper) (a : Act) (K : Act → World → Prop) (Q : Exit → Act → World → Prop) (E : Prop) (hgd : o.guard = none) (ho : o.op = Op.call { callee := Callee.builtin Builtin.append, args := #[.tmp 29, .tmp 32], argTypes := #[53, 53] }) => step_append_lies (P := Tryz.prog) w (ops := ops) (a := a) (K := K) (Q := Q) (E := E) hgd (.tmp 29) (.tmp 32) 53 ho hi 52 i0 _ 13 120 Tryz.underlying53 hi0 hz0 hz1 hz2 Z2 (by decide) (.slice Ae ne ce) ne (z.eras.flatMap Er.vals)
  have HT := Lib.hid TT
  clear TT Z2
  have M1 : ne + 1 ≤ maxLen := by unfold maxLen; omega
  have M2 : (ne + 1) * 120 ≤ 140737488355328 := by omega
  have OWF := Lib.hid (fun (w2 : World) (GG : Gr R W w2) => show w2.ownsRow hi 52 13 (.slice Ae ne ce) ne (z.eras.flatMap Er.vals) from by
    have ow := (AA0.out.gr GG lt).own _ (List.mem_cons_self ..)
    unfold Own.own erasO at ow
    rw [HNE.out] at ow
    exact ow)
  have ZCF := Lib.hid (fun (w2 : World) (GG : Gr R W w2) => show w2.cell? ⟨gz, q * 2 + 1, none⟩ = some (.slice Ae ne ce) from (World.cell?_of_block (w := W) (a := ⟨gz, q * 2 + 1, none⟩) (GG.block gz hlt2 (fun e => hgR (by cases e; rfl)))).trans ZW.out)
  have NE := Lib.hid (fun (w2 X w4 : World) (A' : Option Addr) (n' c' g cap : Nat) (GG : Gr R W w2) (HB2 : Blk w2 R (rdVals vr (.slice (some ⟨gz, 0, none⟩) (q + 1) cz) vl ln st en (.slice A' n' c'))) (HX : Below w2.heap.size w2 X) (hX : X.heap.size = w2.heap.size + 1) (hown : w4.ownsRow hi 52 13 (.slice (some ⟨g, 0, none⟩) (ne + 1) cap) (ne + 1) (z.eras.flatMap Er.vals ++ [.int .i64 off, .int .i64 k, .int .i64 s, .string r, .string f, .bool til, .int .i64 y, .int .i64 mo, .int .i64 ki, .int .i64 wd, .int .i64 da, .int .i64 ti, .int .i64 re])) (hgrow : X.grownBy w4 (Value.slice Ae ne ce).ownBlock) (hat : (Value.slice Ae ne ce).ownBlock = some g ∨ g = w2.heap.size + 1) =>
    show (gz < w4.heap.size ∧ w4.cell? ⟨gz, q * 2 + 1, none⟩ = some (.slice Ae ne ce) ∧ w4.frozen? ⟨gz, q * 2 + 1, none⟩ = false) ∧ Rds w0 R hi ⟨S.rules, Z ++ [⟨z.name, z.eras ++ [⟨off, k, s, r, f, til, y, ⟨mo, ki, wd, da, ti, re⟩⟩]⟩], S.links⟩ vr (.slice (some ⟨gz, 0, none⟩) (q + 1) cz) vl ln st en (.slice A' n' c') (w4.setCell ⟨gz, q * 2 + 1, none⟩ (.slice (some ⟨g, 0, none⟩) (ne + 1) cap)) ∧ Keep hi R W (w4.setCell ⟨gz, q * 2 + 1, none⟩ (.slice (some ⟨g, 0, none⟩) (ne + 1) cap)) from by
      obtain ⟨h1, ⟨h2, h3, h4, h5⟩, h6, h7⟩ := grew_era GG EZ.out HQ.out AA0.out lt (by omega) HNE.out HB2 HX hX ⟨off, k, s, r, f, til, y, ⟨mo, ki, wd, da, ti, re⟩⟩ g cap hown hgrow hat
      rw [Nat.mul_comm 2 q] at h4 h5 h6 h7
      exact ⟨⟨h2, h4, h5⟩, ⟨ge, lt, Nat.le_trans (show hi ≤ W.heap.size by omega) h7.size, h7.below HBW.out ge lt, h1.far h3 _ _, h6⟩, h7⟩)
  go_region_law (first
    | (go_simp; go_at_call 110; refine (T2.out _ (by first | exact H1.out | exact H1.out.below (below_drewN (Below.refl _ _) 1))).mono ?_; rintro e w2 (⟨hx, rfl, hb⟩ | ⟨hx2, rfl, hr, hg⟩); (exact ⟨rfl, .inl ⟨by rw [orF_no X0.out]; exact hx, by rw [orF_no X0.out]; exact ⟨rfl, hb⟩⟩⟩); have X2 := Lib.hid hx2; have G2 : Hid (Gr R W w2) := Lib.hid (by first | exact G1.out.trans hg | exact (G1.out.trans (Gr.of_below (below_drewN (Below.refl _ _) 1))).trans hg); have zc4 := ZCF.out w2 G2.out; have OW2 := Lib.hid (OWF.out w2 G2.out); have NB := Lib.hid (blk_lit w2 52 [.int .i64 off, .int .i64 k, .int .i64 s, .string r, .string f, .bool til, .int .i64 y, .int .i64 mo, .int .i64 ki, .int .i64 wd, .int .i64 da, .int .i64 ti, .int .i64 re]); have szg := G2.out.size; have M3 : hi ≤ w2.heap.size + 1 := (by omega); have ltg : gz < w2.heap.size := (by omega); obtain ⟨A', n', c', hB2, _⟩ := hr.at_; have HB2 := Lib.hid hB2; clear hB2 hr hg hx2)
    | (refine HT.out _ _ _ _ _ _ _ (by rfl) (by rfl) (by rfl) (by repeat (first | with_reducible exact OW2.out | with_reducible refine World.ownsRow.drew ?_ | with_reducible refine World.ownsRow.alloc ?_ _)) ⟨w2.heap.size, 0, none⟩ 1 1 [.int .i64 off, .int .i64 k, .int .i64 s, .string r, .string f, .bool til, .int .i64 y, .int .i64 mo, .int .i64 ki, .int .i64 wd, .int .i64 da, .int .i64 ti, .int .i64 re] (by rfl) rfl (blk_news (by repeat (first | with_reducible exact NB.out | with_reducible refine Blk.drew ?_))) ON.out (by decide) M1 M2 (by simpa using M3) (w2.heap.size + 1) (by simp) ?_; intro g cap w4 hown hgrow hat hlt; obtain ⟨⟨lg, zc5, zf5⟩, r4, kp4⟩ := NE.out w2 _ w4 A' n' c' g cap G2.out HB2.out (by repeat (first | with_reducible exact Below.refl _ _ | with_reducible refine Below.drew ?_ | with_reducible refine Below.alloc ?_ (Nat.le_refl _) _)) (by simp) hown hgrow hat; have R4 := Lib.hid r4; have K4 := Lib.hid kp4; clear r4 kp4 hown hgrow hat))
  all_goals go_wp2
  all_goals go_end0
  all_goals exact .inr ⟨by rw [orF_no X0.out]; exact X2.out, rfl, _, _, _, _, R4.out, K4.out⟩
theorem due_none (W : World) (R : Nat) (vr vl : Value) (A : Option Addr) (c : Nat) (ln st en : Int) (wv : Value) (h : Blk W R (rdVals vr (.slice A 0 c) vl ln st en wv)) :
    Calls Tryz.prog 46 #[.pointer (some ⟨R, 0, none⟩)] W fun e W' => e = .returned (.bool false) ∧ Below W.heap.size W W' := by
  obtain ⟨ltR, ⟨c0, c1, c2, c3, c4, c5, c6⟩, _⟩ := h.sevenR
  clear h
  go_enter Tryz.func46, Tryz.ntmps46
  go_wp2
  go_ret
  exact ⟨rfl, Below.refl _ _⟩
theorem due_last (W : World) (R gz q cz ge ne ce : Nat) (vr vl : Value) (ln st en : Int) (wv : Value) (b : Bool) (h : Blk W R (rdVals vr (.slice (some ⟨gz, 0, none⟩) (q + 1) cz) vl ln st en wv)) (q9 : q ≤ 1000) (hn9 : ne ≤ 1000) (_ltz : gz < W.heap.size) (lte : ge < W.heap.size)
    (zc : W.cell? ⟨gz, q * 2 + 1, none⟩ = some (.slice (some ⟨ge, 0, none⟩) (ne + 1) ce)) (ec : W.cell? ⟨ge, ne * 13 + 5, none⟩ = some (.bool b)) :
    Calls Tryz.prog 46 #[.pointer (some ⟨R, 0, none⟩)] W fun e W' => e = .returned (.bool b) ∧ Below W.heap.size W W' := by
  obtain ⟨ltR, ⟨c0, c1, c2, c3, c4, c5, c6⟩, _⟩ := h.sevenR
  have wr1 : wrap64 (((q : Int) + 1) - 1) = (q : Int) := by unfold wrap64; omega
  have wr2 : IntKind.i64.wrap (((q : Int) + 1) - 1) = (q : Int) := by rw [IntWalk.i64_in _ (by omega)]; omega
  have wr3 : wrap64 (((ne : Int) + 1) - 1) = (ne : Int) := by unfold wrap64; omega
  have wr4 : IntKind.i64.wrap (((ne : Int) + 1) - 1) = (ne : Int) := by rw [IntWalk.i64_in _ (by omega)]; omega
  have z0 : decide (((q : Int) + 1) = 0) = false := decide_eq_false (by omega)
  clear h
  go_enter Tryz.func46, Tryz.ntmps46
  go_wp2_with fail
  go_quiet (fail)
  have hb0 := below_drewN (Below.refl W.heap.size W) nq
  have ec2 := (hb0.cell (p := ⟨ge, ne * 13 + 5, none⟩) lte).trans ec
  have HB := Lib.hid hb0
  clear hb0 zc ec c0 c1 c2 c3 c4 c5 c6
  generalize W.drewN nq = W1 at *
  go_wp2
  go_ret
  exact ⟨rfl, HB.out⟩
theorem run_get_map {P : Program} {w : World} {b n : Nat} {es : Array MapEntry} (h : w.heap[b]? = some (.map es n)) : (getObj b).run P w = .ok (.map es n) w := by simp [getObj, Sem.run, h]
theorem run_put_map {P : Program} {w : World} {b n : Nat} {es : Array MapEntry} (o : Obj) (h : w.heap[b]? = some (.map es n)) : (setObj b o).run P w = .ok () (w.putObj b o) := by simp [setObj, Sem.run, h, World.putObj]
theorem run_check_str {P : Program} {k : TypeId} (hk : P.underlying k = some .string) (em : Bool) (s : ByteArray) (w : World) : (Instr.checkKey em 10000 k (.string s)).run P w = .ok () w := by
  unfold Instr.checkKey
  simp [Sem.run_bind, run_underlying hk, Result.andThen]
theorem run_find_str {P : Program} {k : TypeId} (hk : P.underlying k = some .string) (x : Value) (es : List MapEntry) (r : Option (Nat × Value)) (hf : Instr.findNow .string x es 0 = some r) (w : World) : (Instr.findKey k x es).run P w = .ok r w := by
  unfold Instr.findKey
  simp [Sem.run_bind, run_underlying hk, Result.andThen, hf]
theorem run_put_new {P : Program} {t k e : TypeId} (ht : P.underlying t = some (.map k e)) (hk : P.underlying k = some .string) {w : World} {b n : Nat} {es : Array MapEntry} (h : w.heap[b]? = some (.map es n)) (s : ByteArray) (v : Value) (hf : Instr.findNow .string (.string s) es.toList 0 = some none) :
    (Instr.mapUpdate t (.map (some b)) (.string s) v).run P w = .ok () (w.putObj b (.map (es.push { key := .string s, val := v, born := n }) (n + 1))) := by
  unfold Instr.mapUpdate
  simp [Sem.run_bind, run_underlying ht, Result.andThen, run_get_map h, run_check_str hk, run_find_str hk _ _ _ hf, run_put_map _ h]
theorem run_look_str {P : Program} {t k e : TypeId} (ht : P.underlying t = some (.map k e)) (hk : P.underlying k = some .string) {w : World} {b n : Nat} {es : Array MapEntry} (h : w.heap[b]? = some (.map es n)) (s : ByteArray) {j : Nat} {v : Value} (hf : Instr.findNow .string (.string s) es.toList 0 = some (some (j, v))) :
    (Instr.lookup t (.map (some b)) (.string s) true).run P w = .ok (.tuple #[v, .bool true]) w := by
  unfold Instr.lookup
  simp [Sem.run_bind, run_underlying ht, Result.andThen, run_get_map h, run_check_str hk, run_find_str hk _ _ _ hf]
theorem run_look_none {P : Program} {t k e : TypeId} (ht : P.underlying t = some (.map k e)) (hk : P.underlying k = some .string) {w : World} {b n : Nat} {es : Array MapEntry} (h : w.heap[b]? = some (.map es n)) (s : ByteArray) {z : Value} (hz : (zeroValue e).run P w = .ok z w) (hf : Instr.findNow .string (.string s) es.toList 0 = some none) :
    (Instr.lookup t (.map (some b)) (.string s) true).run P w = .ok (.tuple #[z, .bool false]) w := by
  unfold Instr.lookup
  simp [Sem.run_bind, run_underlying ht, Result.andThen, run_get_map h, run_check_str hk, run_find_str hk _ _ _ hf, hz]
def mRule : MapEntry := { key := .string ruleT, val := .func (.func 111) #[] #[], born := 0 }
def mZone : MapEntry := { key := .string zoneT, val := .func (.func 112) #[] #[], born := 1 }
def mLink : MapEntry := { key := .string linkT, val := .func (.func 113) #[] #[], born := 2 }
def mAll : Array MapEntry := #[mRule, mZone, mLink]
theorem map_made (w : World) : ∃ W1 W2 W3 : World, ((Instr.mapUpdate 136 (.map (some w.heap.size)) (.string ⟨#[82, 117, 108, 101]⟩) (.func (.func 111) #[] #[])).run Tryz.prog (w.alloc (.map #[] 0)) = .ok () W1) ∧
    ((Instr.mapUpdate 136 (.map (some w.heap.size)) (.string ⟨#[90, 111, 110, 101]⟩) (.func (.func 112) #[] #[])).run Tryz.prog W1 = .ok () W2) ∧
    ((Instr.mapUpdate 136 (.map (some w.heap.size)) (.string ⟨#[76, 105, 110, 107]⟩) (.func (.func 113) #[] #[])).run Tryz.prog W2 = .ok () W3) ∧
    W3.heap[w.heap.size]? = some (.map mAll 3) ∧ Below w.heap.size w W3 := by
  have h0 : (w.alloc (.map #[] 0)).heap[w.heap.size]? = some (.map #[] 0) := World.alloc_heap_new w _
  have ht := Tryz.underlying136
  have hk := Tryz.underlying9
  have sz : w.heap.size < (w.alloc (.map #[] 0)).heap.size := by simp
  have h1 : ((w.alloc (.map #[] 0)).putObj w.heap.size (.map #[mRule] 1)).heap[w.heap.size]? = some (.map #[mRule] 1) := World.putObj_heap_same sz
  have h2 : (((w.alloc (.map #[] 0)).putObj w.heap.size (.map #[mRule] 1)).putObj w.heap.size (.map #[mRule, mZone] 2)).heap[w.heap.size]? = some (.map #[mRule, mZone] 2) := World.putObj_heap_same (by simp)
  refine ⟨(w.alloc (.map #[] 0)).putObj w.heap.size (.map #[mRule] 1), ((w.alloc (.map #[] 0)).putObj w.heap.size (.map #[mRule] 1)).putObj w.heap.size (.map #[mRule, mZone] 2), (((w.alloc (.map #[] 0)).putObj w.heap.size (.map #[mRule] 1)).putObj w.heap.size (.map #[mRule, mZone] 2)).putObj w.heap.size (.map mAll 3), run_put_new ht hk h0 _ _ rfl, run_put_new ht hk h1 _ _ (by rfl), run_put_new ht hk h2 _ _ (by rfl), World.putObj_heap_same (by simp), ?_⟩
  have pb : ∀ (X : World) (o : Obj), Below w.heap.size X (X.putObj w.heap.size o) := fun X o => ⟨rfl, rfl, rfl, by simp, fun k hk' => World.putObj_heap_other (by omega)⟩
  exact ((((Below.refl _ w).alloc (Nat.le_refl _) _).trans (pb _ _)).trans (pb _ _)).trans (pb _ _)
def mnVal (t : ByteArray) : Value := if t = ruleT then .func (.func 111) #[] #[] else if t = zoneT then .func (.func 112) #[] #[] else if t = linkT then .func (.func 113) #[] #[] else .nilFunc
def mnB (t : ByteArray) : Bool := decide (t = ruleT ∨ t = zoneT ∨ t = linkT)
theorem bytes_beq (t u : ByteArray) : (t == u) = decide (t = u) := by
  cases t with | mk a =>
  cases u with | mk b =>
  show (a == b) = _
  by_cases h : a = b
  · rw [decide_eq_true (by rw [h])]; exact beq_iff_eq.2 h
  · rw [decide_eq_false (by intro c; exact h (ByteArray.mk.inj c))]; exact beq_eq_false_iff_ne.2 h
theorem now_step (t u : ByteArray) (v : Value) (b i : Nat) (es : List MapEntry) : Instr.findNow .string (.string t) ({ key := .string u, val := v, born := b } :: es) i = if t = u then some (some (i, v)) else Instr.findNow .string (.string t) es (i + 1) := by
  show (match some (t == u) with | some true => _ | some false => _ | none => _) = _
  by_cases h : t = u
  · rw [if_pos h, bytes_beq, decide_eq_true h]
  · rw [if_neg h, bytes_beq, decide_eq_false h]
theorem look_word (t : ByteArray) (W : World) (b : Nat) (h : W.heap[b]? = some (.map mAll 3)) : (Instr.lookup 136 (.map (some b)) (.string t) true).run Tryz.prog W = .ok (.tuple #[mnVal t, .bool (mnB t)]) W := by
  have ht := Tryz.underlying136
  have hk := Tryz.underlying9
  have e : Instr.findNow .string (.string t) mAll.toList 0 = if t = ruleT then some (some (0, .func (.func 111) #[] #[])) else if t = zoneT then some (some (1, .func (.func 112) #[] #[])) else if t = linkT then some (some (2, .func (.func 113) #[] #[])) else some none := by
    show Instr.findNow .string (.string t) [mRule, mZone, mLink] 0 = _
    unfold mRule mZone mLink
    rw [now_step, now_step, now_step]
    rfl
  unfold mnVal mnB
  by_cases h1 : t = ruleT
  · rw [if_pos h1] at e ⊢
    rw [decide_eq_true (.inl h1)]
    exact run_look_str ht hk h t e
  rw [if_neg h1] at e ⊢
  by_cases h2 : t = zoneT
  · rw [if_pos h2] at e ⊢
    rw [decide_eq_true (.inr (.inl h2))]
    exact run_look_str ht hk h t e
  rw [if_neg h2] at e ⊢
  by_cases h3 : t = linkT
  · rw [if_pos h3] at e ⊢
    rw [decide_eq_true (.inr (.inr h3))]
    exact run_look_str ht hk h t e
  rw [if_neg h3] at e ⊢
  rw [decide_eq_false (by rintro (c | c | c) <;> contradiction)]
  exact run_look_none ht hk h t (Tryz.zeroValue106 W) e
theorem meaningP (t : ByteArray) (w : World) : Calls Tryz.prog 77 #[.string t] w fun e w' => e = .returned (.tuple #[mnVal t, .bool (mnB t)]) ∧ Below w.heap.size w w' := by
  obtain ⟨W1, W2, W3, i1, i2, i3, hm, hb⟩ := map_made w
  have hl := look_word t W3 _ hm
  have hmm := @run_makeMap Tryz.prog
  have HB := Lib.hid hb
  clear hb hm
  generalize mnVal t = v at *
  generalize mnB t = b at *
  go_enter Tryz.func77, Tryz.ntmps77
  go_wp2
  go_ret2
  exact ⟨rfl, HB.out⟩
end Go.Proofs.YtnkmlfbnfndfpaaGreatDoor
