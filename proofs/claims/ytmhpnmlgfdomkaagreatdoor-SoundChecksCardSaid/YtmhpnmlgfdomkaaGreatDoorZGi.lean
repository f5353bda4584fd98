import Derived.Test.YtmhpnmlgfdomkaaGreatDoorZGj
import Derived.Lib.IndexAny
import Derived.Lib.Bytealg
import Derived.Laws.Externs
import Derived.Test.YtmhpnmlgfdomkaaGreatDoorZGf
import Derived.RangeFuncNested
import Derived.RangeFuncBound
import Derived.RangeFuncCalls
import Derived.RangeFuncLeaves
import Derived.RangeFuncBox
import Derived.Test.YtmhpnmlgfdomkaaGreatDoorZGw
import Derived.Test.YtmhpnmlgfdomkaaGreatDoorZMem
import Derived.Shelf.Abstract
import Derived.Shelf.RegionOpen
import Derived.WalkKit
import Derived.OwnWalkIn
import Derived.TacticsInMore
import Derived.LoopNIn
import Derived.LoopIn
import Derived.Test.YtmhpnmlgfdomkaaGreatDoorZGy
import Derived.Test.YtmhpnmlgfdomkaaGreatDoorZGm
import Derived.Test.YtmhpnmlgfdomkaaGreatDoorZGq
import Derived.Test.YtmhpnmlgfdomkaaGreatDoorZGhs
import Derived.Shelf.Strconv.ParseUint10At
import Derived.Shelf.Strconv.ToError
import Derived.Shelf.Strconv.ToErrorRange
import Derived.Test.YtmhpnmlgfdomkaaGreatDoorProg
import Derived.Shelf.RegionOpenPlain
import Derived.Test.YtmhpnmlgfdomkaaGreatDoorZGl
import Derived.Test.YtmhpnmlgfdomkaaGreatDoorZGua
import Derived.Maps.AppendAt
import Derived.Test.YtmhpnmlgfdomkaaGreatDoorZYpar
import Derived.Deep.AppendLies
import Derived.Deep.RegionLaw
import Derived.BigQuiet
import Derived.Maps.Own
import Derived.RangeFuncRecord
set_option maxRecDepth 100000
set_option maxHeartbeats 64000000
namespace Go.Proofs.YtmhpnmlgfdomkaaGreatDoor
open Go.RowKit
def madeB (s : ByteArray) (most : Int) (l : List Nat) : Bool := decide (0 < s.size) && decide ((s.size : Int) ≤ most) && allB (kindB l) s s.size
theorem letterP (c : Nat) (w : World) : Calls Tryz.prog 106 #[.int .u8 c] w (SameV w (.bool (ltrB c))) := by
  by_cases h1 : 65 ≤ c
  · have d1 : decide ((65 : Int) ≤ c) = true := decide_eq_true (by omega)
    by_cases h2 : c ≤ 90
    · have d2 : decide ((c : Int) ≤ 90) = true := decide_eq_true (by omega)
      have E := Lib.hid (show ltrB c = true by unfold ltrB; rw [decide_eq_true (p := 65 ≤ c ∧ c ≤ 90) ⟨h1, h2⟩, Bool.or_true])
      go_enter Tryz.func106, Tryz.ntmps106
      go_wp2
      go_ret
      exact ⟨by rw [E.out]; rfl, rfl⟩
    have d2 : decide ((c : Int) ≤ 90) = false := decide_eq_false (by omega)
    have E := Lib.hid (show ltrB c = (decide ((97 : Int) ≤ c) && decide ((c : Int) ≤ 122)) by
      unfold ltrB
      rw [decide_eq_false (p := 65 ≤ c ∧ c ≤ 90) (by omega), Bool.or_false, Bool.eq_iff_iff]
      simp only [Bool.and_eq_true, decide_eq_true_eq]
      omega)
    by_cases h3 : 97 ≤ c
    · have d3 : decide ((97 : Int) ≤ c) = true := decide_eq_true (by omega)
      rw [d3] at E
      go_enter Tryz.func106, Tryz.ntmps106
      go_wp2
      go_ret
      exact ⟨by rw [E.out]; simp, rfl⟩
    · have d3 : decide ((97 : Int) ≤ c) = false := decide_eq_false (by omega)
      rw [d3] at E
      go_enter Tryz.func106, Tryz.ntmps106
      go_wp2
      go_ret
      exact ⟨by rw [E.out]; rfl, rfl⟩
  · have d1 : decide ((65 : Int) ≤ c) = false := decide_eq_false (by omega)
    have d3 : decide ((97 : Int) ≤ c) = false := decide_eq_false (by omega)
    have E := Lib.hid (show ltrB c = false by unfold ltrB; rw [decide_eq_false (by omega), decide_eq_false (by omega)]; rfl)
    go_enter Tryz.func106, Tryz.ntmps106
    go_wp2
    go_ret
    exact ⟨by rw [E.out]; rfl, rfl⟩
theorem digitP (c : Nat) (w : World) : Calls Tryz.prog 107 #[.int .u8 c] w (SameV w (.bool (dgtB c))) := by
  by_cases h1 : 48 ≤ c
  · have d1 : decide ((48 : Int) ≤ c) = true := decide_eq_true (by omega)
    by_cases h2 : c ≤ 57
    · have d2 : decide ((c : Int) ≤ 57) = true := decide_eq_true (by omega)
      have E := Lib.hid (show dgtB c = true from decide_eq_true ⟨h1, h2⟩)
      go_enter Tryz.func107, Tryz.ntmps107
      go_wp2
      go_ret
      exact ⟨by rw [E.out]; rfl, rfl⟩
    · have d2 : decide ((c : Int) ≤ 57) = false := decide_eq_false (by omega)
      have E := Lib.hid (show dgtB c = false from decide_eq_false (by omega))
      go_enter Tryz.func107, Tryz.ntmps107
      go_wp2
      go_ret
      exact ⟨by rw [E.out]; rfl, rfl⟩
  · have d1 : decide ((48 : Int) ≤ c) = false := decide_eq_false (by omega)
    have E := Lib.hid (show dgtB c = false from decide_eq_false (by omega))
    go_enter Tryz.func107, Tryz.ntmps107
    go_wp2
    go_ret
    exact ⟨by rw [E.out]; rfl, rfl⟩
theorem indexByteP (s : ByteArray) (c : UInt8) (w : World) : Calls Tryz.prog 108 #[.string s, .int .u8 c.toNat] w (SameV w (.int .i64 (Lib.indexByte s.data.toList c))) := by
  go_enter Tryz.func108, Tryz.ntmps108
  go_wp2
  rw [run_callFunc_extern Tryz.func141 (by kernel_rfl) (by kernel_rfl) (by kernel_rfl) (e := Extern.BytealgIndexByte.indexByte) (by kernel_rfl), Lib.run_indexByteString]
  simp only [Result.andThen]
  rw [Oper.upon_value]
  go_wp2
  go_ret
  exact ⟨by simp, rfl⟩
theorem has_of {m : ByteArray} {l : List Nat} (hl : m.data.toList.map UInt8.toNat = l) (c : UInt8) : l.contains c.toNat = decide (0 ≤ Lib.indexByte m.data.toList c) := by
  rw [← Lib.contains_iff_indexByte, ← hl]
  induction m.data.toList with
  | nil => rfl
  | cons a r ih =>
    rw [List.map_cons, List.contains_cons, List.contains_cons, ih]
    congr 1
    rw [Bool.eq_iff_iff, beq_iff_eq, beq_iff_eq]
    exact ⟨fun h => UInt8.toNat_inj.1 h, fun h => by rw [h]⟩
theorem madeP (s m : ByteArray) (most : Int) (l : List Nat) (hl : m.data.toList.map UInt8.toNat = l) (hs : s.size ≤ maxLen) (w : World) :
    Calls Tryz.prog 80 #[.string s, .int .i64 most, .string m] w (SameV w (.bool (madeB s most l))) := by
  have sz : s.size ≤ 9223372036854775807 := hs
  by_cases h0 : s = ⟨#[]⟩
  · subst h0
    have E := Lib.hid (show madeB ⟨#[]⟩ most l = false from rfl)
    go_enter Tryz.func80, Tryz.ntmps80
    go_wp2
    go_ret
    exact ⟨by rw [E.out]; rfl, rfl⟩
  have p0 : 0 < s.size := by
    apply Nat.pos_of_ne_zero
    intro c
    exact h0 (ByteArray.ext (Array.eq_empty_of_size_eq_zero c))
  have n0 : (s.toList == []) = false := by
    rw [beq_eq_false_iff_ne]
    intro c
    rw [ByteArray.toList_eq] at c
    have := congrArg List.length c
    rw [Array.length_toList] at this
    exact absurd (show s.size = 0 from this) (by omega)
  have n1 : s.toList.isEmpty = false := by
    rw [← Bool.not_eq_true, List.isEmpty_iff]
    intro c
    rw [c] at n0
    exact absurd n0 (by decide)
  have n2 : ¬ s.toList = [] := by
    intro c
    rw [c] at n0
    exact absurd n0 (by decide)
  clear h0
  by_cases h1 : most < s.size
  · have d1 : decide (most < (s.size : Int)) = true := decide_eq_true h1
    have E := Lib.hid (show madeB s most l = false by unfold madeB; rw [decide_eq_false (p := (s.size : Int) ≤ most) (by omega), Bool.and_false, Bool.false_and])
    go_enter Tryz.func80, Tryz.ntmps80
    go_wp2
    go_ret
    exact ⟨by rw [E.out]; rfl, rfl⟩
  have d1 : decide (most < (s.size : Int)) = false := decide_eq_false h1
  have E := Lib.hid (show madeB s most l = allB (kindB l) s s.size by unfold madeB; rw [decide_eq_true p0, decide_eq_true (p := (s.size : Int) ≤ most) (by omega)]; rfl)
  have HL := Lib.hid (has_of hl)
  have LT := Lib.hid letterP
  have DG := Lib.hid digitP
  have IB := Lib.hid (indexByteP m)
  clear h1 hl hs
  go_enter Tryz.func80, Tryz.ntmps80
  go_wp2_with fail
  go_loop [7, 8, 19] (fun v7 v8 v19 => ∃ k : Nat, k ≤ s.size ∧ v19 = .int .i64 k ∧ allB (kindB l) s k = true) (fun _ _ v => s.size - (intOf v).toNat)
  case atStart => exact ⟨0, by omega, rfl, rfl⟩
  case round =>
    obtain ⟨k, hk, rfl, ha⟩ := hrel
    have HA := Lib.hid ha
    clear ha
    by_cases hk2 : k < s.size
    · have d2 : decide ((k : Int) < s.size) = true := decide_eq_true (by omega)
      have LW := Lib.hid (LT.out s[k].toNat)
      cases e1 : ltrB s[k].toNat with
      | true =>
        rw [e1] at LW
        have HB := Lib.hid (allB_on hk2 HA.out (show kindB l s[k].toNat = true by unfold kindB; rw [e1]; rfl))
        clear e1 HA
        go_wp2_with (go_at_call 106; refine (LW.out _).mono ?_; rintro e w' ⟨rfl, rfl⟩)
        go_round
        case rel => exact ⟨k + 1, by omega, int_eqS (by omega), HB.out⟩
        case measure => simp only [intOf]; omega
      | false =>
        rw [e1] at LW
        have DW := Lib.hid (DG.out s[k].toNat)
        cases e2 : dgtB s[k].toNat with
        | true =>
          rw [e2] at DW
          have HB := Lib.hid (allB_on hk2 HA.out (show kindB l s[k].toNat = true by unfold kindB; rw [e1, e2]; rfl))
          clear e1 e2 HA
          go_wp2_with (first | (go_at_call 106; refine (LW.out _).mono ?_; rintro e w' ⟨rfl, rfl⟩) | (go_at_call 107; refine (DW.out _).mono ?_; rintro e w' ⟨rfl, rfl⟩))
          go_round
          case rel => exact ⟨k + 1, by omega, int_eqS (by omega), HB.out⟩
          case measure => simp only [intOf]; omega
        | false =>
          rw [e2] at DW
          have IW := Lib.hid (IB.out s[k])
          have hc := HL.out s[k]
          by_cases h3 : 0 ≤ Lib.indexByte m.data.toList s[k]
          · rw [decide_eq_true h3] at hc
            have HB := Lib.hid (allB_on hk2 HA.out (show kindB l s[k].toNat = true by unfold kindB; rw [e1, e2, hc]; rfl))
            generalize Lib.indexByte m.data.toList s[k] = q at *
            have d3 : decide (q < 0) = false := decide_eq_false (by omega)
            clear e1 e2 HA hc
            go_wp2_with (first | (go_at_call 106; refine (LW.out _).mono ?_; rintro e w' ⟨rfl, rfl⟩) | (go_at_call 107; refine (DW.out _).mono ?_; rintro e w' ⟨rfl, rfl⟩) | (go_at_call 108; refine (IW.out _).mono ?_; rintro e w' ⟨rfl, rfl⟩))
            go_round
            case rel => exact ⟨k + 1, by omega, int_eqS (by omega), HB.out⟩
            case measure => simp only [intOf]; omega
          · rw [decide_eq_false h3] at hc
            have HB := Lib.hid (allB_no (p := kindB l) hk2 (show kindB l s[k].toNat = false by unfold kindB; rw [e1, e2, hc]; rfl))
            generalize Lib.indexByte m.data.toList s[k] = q at *
            have d3 : decide (q < 0) = true := decide_eq_true (by omega)
            clear e1 e2 HA hc
            go_wp2_with (first | (go_at_call 106; refine (LW.out _).mono ?_; rintro e w' ⟨rfl, rfl⟩) | (go_at_call 107; refine (DW.out _).mono ?_; rintro e w' ⟨rfl, rfl⟩) | (go_at_call 108; refine (IW.out _).mono ?_; rintro e w' ⟨rfl, rfl⟩))
            go_ret
            exact ⟨by rw [E.out, HB.out]; rfl, rfl⟩
    · have d2 : decide ((k : Int) < s.size) = false := decide_eq_false (by omega)
      obtain rfl : k = s.size := by omega
      go_wp2_with fail
      go_ret
      exact ⟨by rw [E.out, HA.out]; rfl, rfl⟩
def begunB (s : ByteArray) : Bool := if h : 0 < s.size then ltrB s[0].toNat || s[0].toNat == 95 else false
theorem begunP (s : ByteArray) (hs : s.size ≤ maxLen) (w : World) : Calls Tryz.prog 81 #[.string s] w (SameV w (.bool (begunB s))) := by
  have sz : s.size ≤ 9223372036854775807 := hs
  by_cases h0 : s = ⟨#[]⟩
  · subst h0
    have E := Lib.hid (show begunB ⟨#[]⟩ = false from rfl)
    go_enter Tryz.func81, Tryz.ntmps81
    go_wp2
    go_ret
    exact ⟨by rw [E.out]; rfl, rfl⟩
  have p0 : 0 < s.size := by
    apply Nat.pos_of_ne_zero
    intro c
    exact h0 (ByteArray.ext (Array.eq_empty_of_size_eq_zero c))
  have n0 : (s.toList == []) = false := by
    rw [beq_eq_false_iff_ne]
    intro c
    rw [ByteArray.toList_eq] at c
    have := congrArg List.length c
    rw [Array.length_toList] at this
    exact absurd (show s.size = 0 from this) (by omega)
  have n1 : s.toList.isEmpty = false := by
    rw [← Bool.not_eq_true, List.isEmpty_iff]
    intro c
    rw [c] at n0
    exact absurd n0 (by decide)
  have n2 : ¬ s.toList = [] := by
    intro c
    rw [c] at n0
    exact absurd n0 (by decide)
  clear h0 hs
  have E : Hid (begunB s = (ltrB s[0].toNat || s[0].toNat == 95)) := Lib.hid (dif_pos p0)
  have LW := Lib.hid (letterP s[0].toNat)
  cases e1 : ltrB s[0].toNat with
  | true =>
    rw [e1] at LW E
    clear e1
    go_enter Tryz.func81, Tryz.ntmps81
    go_wp2_with (go_at_call 106; refine (LW.out _).mono ?_; rintro e w' ⟨rfl, rfl⟩)
    go_ret
    exact ⟨by rw [E.out]; rfl, rfl⟩
  | false =>
    rw [e1] at LW E
    clear e1
    by_cases h2 : s[0].toNat = 95
    · have f : ((s[0].toNat : Int) == 95) = true := by rw [beq_iff_eq]; omega
      have E2 := Lib.hid (E.out.trans (show (false || s[0].toNat == 95) = true by rw [beq_iff_eq.2 h2]; rfl))
      clear E h2
      go_enter Tryz.func81, Tryz.ntmps81
      go_wp2_with (go_at_call 106; refine (LW.out _).mono ?_; rintro e w' ⟨rfl, rfl⟩)
      go_ret
      exact ⟨by rw [E2.out]; rfl, rfl⟩
    · have f : ((s[0].toNat : Int) == 95) = false := by rw [beq_eq_false_iff_ne]; omega
      have E2 := Lib.hid (E.out.trans (show (false || s[0].toNat == 95) = false by rw [beq_eq_false_iff_ne.2 h2]; rfl))
      clear E h2
      go_enter Tryz.func81, Tryz.ntmps81
      go_wp2_with (go_at_call 106; refine (LW.out _).mono ?_; rintro e w' ⟨rfl, rfl⟩)
      go_ret
      exact ⟨by rw [E2.out]; rfl, rfl⟩
theorem set_made (s : ByteArray) : setB s = (madeB s 20 [95, 45] && begunB s) := by
  unfold setB madeB begunB
  by_cases h : 0 < s.size
  · by_cases h2 : s.size ≤ 20
    · rw [dif_pos ⟨h, h2⟩, dif_pos h, decide_eq_true h, decide_eq_true (p := (s.size : Int) ≤ 20) (by omega)]
      cases ha : allB (kindB [95, 45]) s s.size with
      | false => simp
      | true =>
        have h1 : allB (kindB [95, 45]) s 1 = true := by
          cases hb : allB (kindB [95, 45]) s 1 with
          | true => rfl
          | false => have := allB_off (s.size - 1) hb; rw [show 1 + (s.size - 1) = s.size by omega, ha] at this; exact absurd this (by decide)
        rw [allB_succ h] at h1
        have h3 : kindB [95, 45] s[0].toNat = true := by
          rw [Bool.and_eq_true] at h1
          exact h1.2
        generalize s[0].toNat = c at *
        unfold kindB dgtB ltrB at *
        simp only [List.contains_cons, List.contains_nil, Bool.or_false, Bool.and_true, Bool.true_and, Bool.or_eq_true, decide_eq_true_eq, beq_iff_eq] at h3 ⊢
        rw [Bool.eq_iff_iff]
        simp only [Bool.and_eq_true, Bool.not_eq_true', decide_eq_false_iff_not, beq_eq_false_iff_ne, Bool.or_eq_true, decide_eq_true_eq, beq_iff_eq]
        omega
    · rw [dif_neg (fun c => h2 c.2), decide_eq_false (p := (s.size : Int) ≤ 20) (by omega), Bool.and_false, Bool.false_and, Bool.false_and]
  · rw [dif_neg (fun c => h c.1), dif_neg h, Bool.and_false]
theorem setP (s : ByteArray) (hs : s.size ≤ maxLen) (w : World) : Calls Tryz.prog 49 #[.string s] w (SameV w (.bool (setB s))) := by
  have MD := Lib.hid (madeP s ⟨#[95, 45]⟩ 20 [95, 45] rfl hs)
  have BG := Lib.hid (begunP s hs)
  have E := Lib.hid (set_made s)
  clear hs
  cases e1 : madeB s 20 [95, 45] with
  | false =>
    rw [e1] at MD E
    clear e1
    go_enter Tryz.func49, Tryz.ntmps49
    go_wp2_with (go_at_call 80; refine (MD.out _).mono ?_; rintro e w' ⟨rfl, rfl⟩)
    go_ret
    exact ⟨by rw [E.out]; rfl, rfl⟩
  | true =>
    rw [e1] at MD E
    clear e1
    go_enter Tryz.func49, Tryz.ntmps49
    go_wp2_with (first | (go_at_call 80; refine (MD.out _).mono ?_; rintro e w' ⟨rfl, rfl⟩) | (go_at_call 81; refine (BG.out _).mono ?_; rintro e w' ⟨rfl, rfl⟩))
    go_ret
    exact ⟨by rw [E.out]; simp, rfl⟩
def noSl (c : Int) : Bool := c != 47
theorem noSl_of {r : ByteArray} {k : Nat} (h : k < r.size) (n : ¬ r[k] = 47) : noSl r[k].toNat = true := by
  unfold noSl
  rw [bne_iff_ne]
  intro c
  exact n (by rw [← UInt8.toNat_inj]; show r[k].toNat = 47; omega)
theorem noSl_at {r : ByteArray} {k : Nat} (h : k < r.size) (n : noSl r[k].toNat = false) : r[k].toNat = 47 := by
  unfold noSl at n
  rw [bne_eq_false_iff_eq] at n
  omega
theorem idx_sl (r : ByteArray) : (endOf noSl r 0 < r.size → Lib.indexByte r.data.toList 47 = (endOf noSl r 0 : Int)) ∧ (¬ endOf noSl r 0 < r.size → Lib.indexByte r.data.toList 47 = -1) := by
  have ge := Lib.indexByte_ge r.data.toList 47
  by_cases h : Lib.indexByte r.data.toList 47 = -1
  · have all := Lib.indexByte_none h
    have e : endOf noSl r 0 = r.size := endOf_eq (Nat.zero_le _) (Nat.le_refl _) (fun j g _ _ => noSl_of g (fun c => all j (by rw [get_list, dif_pos g, c]))) (fun g => absurd g (by omega))
    exact ⟨fun c => by omega, fun _ => h⟩
  · obtain ⟨o, ho⟩ : ∃ o : Nat, Lib.indexByte r.data.toList 47 = (o : Int) := ⟨(Lib.indexByte r.data.toList 47).toNat, by omega⟩
    obtain ⟨h1, h2⟩ := Lib.indexByte_some ho
    have lt : o < r.size := by
      rw [get_list] at h1
      split at h1
      · assumption
      · cases h1
    have at_ : r[o] = 47 := by
      rw [get_list, dif_pos lt] at h1
      exact Option.some.inj h1
    have e : endOf noSl r 0 = o := endOf_eq (Nat.zero_le _) (by omega) (fun j g _ hj => noSl_of g (fun c => h2 j hj (by rw [get_list, dif_pos g, c]))) (fun _ => by simp only [at_]; rfl)
    exact ⟨fun _ => by rw [ho, e], fun c => absurd lt (by omega)⟩
theorem sl_lt {s : ByteArray} {a : Nat} (h : endOf noSl s a < s.size) : a ≤ endOf noSl s a := by
  by_cases ha : a < s.size
  · exact (endOf_le (K := noSl) (by omega)).1
  · rw [endOf_end ha] at h
    omega
def slsFrom (s : ByteArray) (a : Nat) : List ByteArray :=
  if h : endOf noSl s a < s.size then s.extract a (endOf noSl s a) :: slsFrom s (endOf noSl s a + 1) else [s.extract a s.size]
termination_by s.size - a
decreasing_by have := sl_lt h; omega
theorem sls_cut {s : ByteArray} {a : Nat} (h : endOf noSl s a < s.size) : slsFrom s a = s.extract a (endOf noSl s a) :: slsFrom s (endOf noSl s a + 1) := by rw [slsFrom, dif_pos h]
theorem sls_end {s : ByteArray} {a : Nat} (h : ¬ endOf noSl s a < s.size) : slsFrom s a = [s.extract a s.size] := by rw [slsFrom, dif_neg h]
theorem allB_iff {p : Nat → Bool} {s : ByteArray} : ∀ {k : Nat}, allB p s k = true ↔ ∀ (j : Nat) (h : j < s.size), j < k → p s[j].toNat = true := by
  intro k
  induction k with
  | zero => exact ⟨fun _ j _ hj => absurd hj (by omega), fun _ => rfl⟩
  | succ k ih =>
    by_cases hk : k < s.size
    · rw [allB_succ hk, Bool.and_eq_true, ih]
      constructor
      · rintro ⟨h1, h2⟩ j hj hjk
        by_cases e : j = k
        · subst e; exact h2
        · exact h1 j hj (by omega)
      · intro h
        exact ⟨fun j hj hjk => h j hj (by omega), h k hk (by omega)⟩
    · have e : allB p s (k + 1) = allB p s k := by
        show (allB p s k && (if h : k < s.size then _ else true)) = _
        rw [dif_neg hk, Bool.and_true]
      rw [e, ih]
      exact ⟨fun h j hj _ => h j hj (by omega), fun h j hj _ => h j hj (by omega)⟩
theorem plc_run {s : ByteArray} {a e : Nat} (he : e ≤ s.size) (hn : ∀ (j : Nat) (h : j < s.size), a ≤ j → j < e → ¬ s[j].toNat = 47) : ∀ (d k : Nat), e - k ≤ d → a ≤ k → k ≤ e →
    (allB (kindB [95, 43, 45]) (s.extract a e) (k - a) = true) → (allB (kindB [95, 43, 45]) (s.extract a e) (e - a) = true → plcGo s k (k - a) = plcGo s e (e - a)) ∧ (allB (kindB [95, 43, 45]) (s.extract a e) (e - a) = false → plcGo s k (k - a) = none) := by
  intro d
  induction d with
  | zero =>
    intro k hd ha hk hb
    obtain rfl : k = e := by omega
    exact ⟨fun _ => rfl, fun c => by rw [hb] at c; cases c⟩
  | succ d ih =>
    intro k hd ha hk hb
    by_cases hke : k < e
    · have hks : k < s.size := by omega
      have sz : (s.extract a e).size = e - a := by simp; omega
      have gt : (s.extract a e)[k - a]'(by omega) = s[k] := by rw [ByteArray.getElem_extract]; simp only [show a + (k - a) = k by omega]
      have stp : allB (kindB [95, 43, 45]) (s.extract a e) (k + 1 - a) = (allB (kindB [95, 43, 45]) (s.extract a e) (k - a) && kindB [95, 43, 45] s[k].toNat) := by
        rw [show k + 1 - a = k - a + 1 by omega, allB_succ (by omega), gt]
      cases kb : kindB [95, 43, 45] s[k].toNat with
      | true =>
        rw [plc_on hks (hn k hks ha hke) kb, show k - a + 1 = k + 1 - a by omega]
        exact ih (k + 1) (by omega) (by omega) (by omega) (by rw [stp, hb, kb]; rfl)
      | false =>
        rw [kb, Bool.and_false] at stp
        have off := allB_off (e - a - (k + 1 - a)) stp
        rw [show k + 1 - a + (e - a - (k + 1 - a)) = e - a by omega] at off
        refine ⟨fun c => ?_, fun _ => plc_no hks (hn k hks ha hke) kb⟩
        rw [off] at c
        cases c
    · obtain rfl : k = e := by omega
      exact ⟨fun _ => rfl, fun c => by rw [hb] at c; cases c⟩
def plcOk (s : ByteArray) (a : Nat) : Bool := match plcGo s a 0 with | none => false | some p => decide (0 < p)
theorem made_part {s : ByteArray} {a e : Nat} (h40 : s.size ≤ 40) (ha : a ≤ e) (he : e ≤ s.size) : madeB (s.extract a e) 40 [95, 43, 45] = (decide (0 < e - a) && allB (kindB [95, 43, 45]) (s.extract a e) (e - a)) := by
  have sz : (s.extract a e).size = e - a := by simp; omega
  unfold madeB
  rw [sz, decide_eq_true (p := ((e - a : Nat) : Int) ≤ 40) (by omega), Bool.and_true]
theorem plc_parts {s : ByteArray} (h40 : s.size ≤ 40) : ∀ (d a : Nat), s.size - a ≤ d → a ≤ s.size → plcOk s a = (slsFrom s a).all fun t => madeB t 40 [95, 43, 45] := by
  intro d
  induction d with
  | zero =>
    intro a hd ha
    obtain rfl : a = s.size := by omega
    have h : ¬ s.size < s.size := by omega
    rw [sls_end (by rw [endOf_end h]; omega), List.all_cons, List.all_nil, made_part h40 (Nat.le_refl _) (Nat.le_refl _)]
    unfold plcOk
    rw [plc_end h]
    simp
  | succ d ih =>
    intro a hd ha
    have ⟨e1, e2⟩ := endOf_le (K := noSl) ha
    have hn : ∀ (j : Nat) (h : j < s.size), a ≤ j → j < endOf noSl s a → ¬ s[j].toNat = 47 := fun j h h1 h2 c => by
      have := endOf_all (K := noSl) s.size a (by omega) j h h1 h2
      unfold noSl at this
      rw [bne_iff_ne] at this
      omega
    obtain ⟨r1, r2⟩ := plc_run e2 hn (s.size) a (by omega) (Nat.le_refl _) e1 (by rw [Nat.sub_self]; rfl)
    rw [Nat.sub_self] at r1 r2
    by_cases h : endOf noSl s a < s.size
    · have h47 := noSl_at h (endOf_at (K := noSl) s.size a (by omega) h)
      rw [sls_cut h, List.all_cons, made_part h40 e1 e2]
      cases ab : allB (kindB [95, 43, 45]) (s.extract a (endOf noSl s a)) (endOf noSl s a - a) with
      | false =>
        unfold plcOk
        rw [r2 ab, Bool.and_false, Bool.false_and]
      | true =>
        rw [Bool.and_true, ← ih (endOf noSl s a + 1) (by omega) (by omega)]
        unfold plcOk
        rw [r1 ab]
        by_cases z : endOf noSl s a - a = 0
        · rw [plc_cut0 h h47 z, decide_eq_false (by omega), Bool.false_and]
        · rw [plc_cut h h47 z, decide_eq_true (by omega), Bool.true_and]
    · have ee : endOf noSl s a = s.size := by omega
      rw [sls_end h, List.all_cons, List.all_nil, Bool.and_true, made_part h40 ha (Nat.le_refl _)]
      rw [ee] at r1 r2
      cases ab : allB (kindB [95, 43, 45]) (s.extract a s.size) (s.size - a) with
      | false =>
        unfold plcOk
        rw [r2 ab, Bool.and_false]
      | true =>
        unfold plcOk
        rw [r1 ab, plc_end (Nat.lt_irrefl _), Bool.and_true]
theorem place_parts (s : ByteArray) : placeB s = (decide ((s.size : Int) ≤ 40) && (slsFrom s 0).all fun t => madeB t 40 [95, 43, 45]) := by
  by_cases h : s.size ≤ 40
  · rw [← plc_parts h s.size 0 (by omega) (Nat.zero_le _), decide_eq_true (p := (s.size : Int) ≤ 40) (by omega), Bool.true_and]
    unfold plcOk placeB
    cases plcGo s 0 0 with
    | none => rfl
    | some p => show (_ && decide (s.size ≤ 40)) = _; rw [decide_eq_true h, Bool.and_true]
  · rw [decide_eq_false (p := (s.size : Int) ≤ 40) (by omega), Bool.false_and]
    unfold placeB
    cases plcGo s 0 0 with
    | none => rfl
    | some p => show (_ && decide (s.size ≤ 40)) = _; rw [decide_eq_false h, Bool.and_false]
def K0 (c : Int) : Bool := kindB [43, 45] c.toNat
def plainK (s : ByteArray) (k : Nat) : Bool := decide (endOf K0 s k = s.size)
theorem plainK_iff {s : ByteArray} {k : Nat} (hk : k ≤ s.size) : plainK s k = true ↔ ∀ (j : Nat) (h : j < s.size), k ≤ j → kindB [43, 45] s[j].toNat = true := by
  unfold plainK
  rw [decide_eq_true_eq]
  constructor
  · intro e j h hj
    exact endOf_all (K := K0) s.size k (by omega) j h hj (by omega)
  · intro h
    exact endOf_eq hk (Nat.le_refl _) (fun j g hj _ => h j g hj) (fun g => absurd g (by omega))
theorem ne_kind {c : Nat} (h : kindB [43, 45] c = true) : ¬ c = 37 ∧ ¬ c = 47 := by
  constructor <;> (rintro rfl; exact absurd h (by decide))
theorem fmt_skip {s : ByteArray} : ∀ (d k e p q : Nat), e - k ≤ d → k ≤ e → e ≤ s.size → (∀ (j : Nat) (h : j < s.size), k ≤ j → j < e → kindB [43, 45] s[j].toNat = true) → fmtGo s k p q = fmtGo s e p q := by
  intro d
  induction d with
  | zero => intro k e p q hd hk he h; rw [show k = e by omega]
  | succ d ih =>
    intro k e p q hd hk he h
    by_cases hke : k < e
    · have kb := h k (by omega) (Nat.le_refl _) hke
      rw [fmt_on (by omega) (ne_kind kb).1 (ne_kind kb).2 kb]
      exact ih (k + 1) e p q (by omega) (by omega) he fun j g h1 h2 => h j g (by omega) h2
    · rw [show k = e by omega]
theorem fmt_grow {s : ByteArray} : ∀ (d k p q : Nat), s.size - k ≤ d → fmtGo s k p q = none ∨ ∃ a b, fmtGo s k p q = some (p + a, q + b) ∧ (a + b = 0 → ∀ (j : Nat) (h : j < s.size), k ≤ j → kindB [43, 45] s[j].toNat = true) := by
  intro d
  induction d with
  | zero => intro k p q hd; exact .inr ⟨0, 0, fmt_end (by omega), fun _ j h hj => by omega⟩
  | succ d ih =>
    intro k p q hd
    by_cases h : k < s.size
    · by_cases e : s[k].toNat = 37
      · by_cases h' : k + 1 < s.size
        · by_cases z : s[k + 1].toNat = 115 ∨ s[k + 1].toNat = 122
          · rw [fmt_pc h e h' z]
            rcases ih (k + 1) (p + 1) q (by omega) with r | ⟨a, b, r, _⟩
            · exact .inl r
            · exact .inr ⟨a + 1, b, by rw [r]; congr 2; omega, fun c => by omega⟩
          · exact .inl (fmt_pc1 h e h' z)
        · exact .inl (fmt_pc0 h e h')
      · by_cases e2 : s[k].toNat = 47
        · by_cases z : k = 0 ∨ k + 1 = s.size
          · exact .inl (fmt_sl0 h e e2 z)
          · rw [fmt_sl h e e2 z]
            rcases ih (k + 1) p (q + 1) (by omega) with r | ⟨a, b, r, _⟩
            · exact .inl r
            · exact .inr ⟨a, b + 1, by rw [r]; congr 2; omega, fun c => by omega⟩
        · cases kb : kindB [43, 45] s[k].toNat with
          | true =>
            rw [fmt_on h e e2 kb]
            rcases ih (k + 1) p q (by omega) with r | ⟨a, b, r, al⟩
            · exact .inl r
            · refine .inr ⟨a, b, r, fun c j g hj => ?_⟩
              by_cases ej : j = k
              · subst ej; exact kb
              · exact al c j g (by omega)
          | false => exact .inl (fmt_no h e e2 kb)
    · exact .inr ⟨0, 0, fmt_end h, fun _ j g hj => by omega⟩
def szB (s : ByteArray) : Bool := decide (1 ≤ s.size) && decide (s.size ≤ 20)
def fmtFin (s : ByteArray) : Option (Nat × Nat) → Bool
  | none => false
  | some (p, q) => szB s && decide (p + q ≤ 1)
theorem fmt_of {s : ByteArray} {r : Option (Nat × Nat)} (h : fmtGo s 0 0 0 = r) : formatB s = fmtFin s r := by
  unfold formatB
  rw [h]
  cases r <;> rfl
theorem fmt_rest {s : ByteArray} {k p q : Nat} (hk : k ≤ s.size) (h1 : p + q = 1) : fmtFin s (fmtGo s k p q) = (szB s && plainK s k) := by
  rcases fmt_grow (s := s) s.size k p q (by omega) with r | ⟨a, b, r, al⟩
  · have np : plainK s k = false := by
      rw [← Bool.not_eq_true]
      intro c
      have := fmt_skip (s := s) s.size k s.size p q (by omega) hk (Nat.le_refl _) (fun j h hj _ => (plainK_iff hk).1 c j h hj)
      rw [r, fmt_end (Nat.lt_irrefl _)] at this
      cases this
    rw [r, np, Bool.and_false]
    rfl
  · rw [r]
    by_cases z : a + b = 0
    · rw [(plainK_iff hk).2 (al z)]
      show (szB s && decide (p + a + (q + b) ≤ 1)) = _
      rw [decide_eq_true (by omega)]
    · have np : plainK s k = false := by
        rw [← Bool.not_eq_true]
        intro c
        have := fmt_skip (s := s) s.size k s.size p q (by omega) hk (Nat.le_refl _) (fun j h hj _ => (plainK_iff hk).1 c j h hj)
        rw [r, fmt_end (Nat.lt_irrefl _), Option.some.injEq, Prod.mk.injEq] at this
        omega
      rw [np]
      show (szB s && decide (p + a + (q + b) ≤ 1)) = _
      rw [decide_eq_false (by omega)]
theorem fmt_first (s : ByteArray) : (plainK s 0 = true → formatB s = szB s) ∧ ∀ (i : Nat) (h : i < s.size), (∀ (j : Nat) (g : j < s.size), j < i → kindB [43, 45] s[j].toNat = true) →
    (s[i].toNat = 37 → formatB s = (szB s && ((if h' : i + 1 < s.size then decide (s[i + 1].toNat = 115 ∨ s[i + 1].toNat = 122) else false) && plainK s (i + 1)))) ∧
    (s[i].toNat = 47 → formatB s = (szB s && (decide (¬ i = 0 ∧ ¬ i + 1 = s.size) && plainK s (i + 1)))) ∧
    (¬ s[i].toNat = 37 → ¬ s[i].toNat = 47 → kindB [43, 45] s[i].toNat = false → formatB s = false) := by
  refine ⟨fun c => ?_, fun i h hj => ?_⟩
  · have := fmt_skip (s := s) s.size 0 s.size 0 0 (by omega) (Nat.zero_le _) (Nat.le_refl _) (fun j h hj _ => (plainK_iff (Nat.zero_le _)).1 c j h hj)
    rw [fmt_of this, fmt_end (Nat.lt_irrefl _)]
    show (szB s && true) = _
    rw [Bool.and_true]
  · have sk := fmt_skip (s := s) s.size 0 i 0 0 (by omega) (Nat.zero_le _) (by omega) (fun j g _ h2 => hj j g h2)
    refine ⟨fun e => ?_, fun e => ?_, fun e1 e2 kb => ?_⟩
    · rw [fmt_of sk]
      by_cases h' : i + 1 < s.size
      · rw [dif_pos h']
        by_cases z : s[i + 1].toNat = 115 ∨ s[i + 1].toNat = 122
        · rw [fmt_pc h e h' z, decide_eq_true z, Bool.true_and]
          exact fmt_rest (by omega) rfl
        · rw [fmt_pc1 h e h' z, decide_eq_false z, Bool.false_and, Bool.and_false]
          rfl
      · rw [fmt_pc0 h e h', dif_neg h', Bool.false_and, Bool.and_false]
        rfl
    · rw [fmt_of sk]
      by_cases z : i = 0 ∨ i + 1 = s.size
      · rw [fmt_sl0 h (by omega) e z, decide_eq_false (by omega), Bool.false_and, Bool.and_false]
        rfl
      · rw [fmt_sl h (by omega) e z, decide_eq_true (by omega), Bool.true_and]
        exact fmt_rest (by omega) rfl
    · rw [fmt_of sk, fmt_no h e1 e2 kb]
      rfl
def at_ (s : ByteArray) (c : UInt8) : Int := Lib.indexByte s.data.toList c
theorem at_none {s : ByteArray} {c : UInt8} (h : at_ s c < 0) : ∀ (j : Nat) (g : j < s.size), ¬ s[j] = c := fun j g e => by
  have ge := Lib.indexByte_ge s.data.toList c
  have := Lib.indexByte_none (l := s.data.toList) (c := c) (by unfold at_ at h; omega) j
  exact this (by rw [get_list, dif_pos g, e])
theorem at_some {s : ByteArray} {c : UInt8} {o : Nat} (h : at_ s c = o) : ∃ g : o < s.size, s[o] = c ∧ ∀ (j : Nat) (g : j < s.size), j < o → ¬ s[j] = c := by
  obtain ⟨h1, h2⟩ := Lib.indexByte_some h
  rw [get_list] at h1
  split at h1
  · rename_i g
    exact ⟨g, Option.some.inj h1, fun j g' hj e => h2 j hj (by rw [get_list, dif_pos g', e])⟩
  · cases h1
def headB (s : ByteArray) (c : Nat) : Bool := if h : 0 < s.size then decide (s[0].toNat = c) else false
def behindT (s : ByteArray) (i : Int) : ByteArray := s.extract (i.toNat + 1) s.size
def fmtC (s : ByteArray) : Bool := madeB s 20 [43, 45, 37, 47] &&
  if 0 ≤ at_ s 37 then (decide (at_ s 47 < 0) && decide (at_ (behindT s (at_ s 37)) 37 < 0)) && (headB (behindT s (at_ s 37)) 115 || headB (behindT s (at_ s 37)) 122)
  else if 0 ≤ at_ s 47 then (decide (¬ at_ s 47 = 0) && decide (¬ (behindT s (at_ s 47)).size = 0)) && decide (at_ (behindT s (at_ s 47)) 47 < 0)
  else true
theorem kind4 (c : Nat) : kindB [43, 45, 37, 47] c = (kindB [43, 45] c || c == 37 || c == 47) := by
  unfold kindB
  simp only [List.contains_cons, List.contains_nil, Bool.or_false, Bool.or_assoc]
theorem kind_out {c : Nat} (h : kindB [43, 45, 37, 47] c = true) (h1 : ¬ c = 37) (h2 : ¬ c = 47) : kindB [43, 45] c = true := by
  rw [kind4, beq_eq_false_iff_ne.2 h1, beq_eq_false_iff_ne.2 h2, Bool.or_false, Bool.or_false] at h
  exact h
theorem kind_in {c : Nat} (h : kindB [43, 45] c = true) : kindB [43, 45, 37, 47] c = true := by rw [kind4, h]; rfl
theorem u8_ne {c : UInt8} {n : Nat} (hn : n < 256) (h : ¬ c = UInt8.ofNat n) : ¬ c.toNat = n := fun e => h (UInt8.toNat_inj.1 (by rw [e, UInt8.toNat_ofNat_of_lt' hn]))
theorem behind_get {s : ByteArray} {i : Nat} (_hi : i < s.size) : (behindT s (i : Int)).size = s.size - (i + 1) ∧ ∀ (j : Nat) (g : j < (behindT s (i : Int)).size) (g' : i + 1 + j < s.size), (behindT s (i : Int))[j] = s[i + 1 + j] := by
  unfold behindT
  refine ⟨by simp, fun j g g' => ?_⟩
  rw [ByteArray.getElem_extract]
  rfl
theorem head_get {s : ByteArray} {i c : Nat} (hi : i < s.size) : headB (behindT s (i : Int)) c = if h : i + 1 < s.size then decide (s[i + 1].toNat = c) else false := by
  obtain ⟨b1, b2⟩ := behind_get hi
  unfold headB
  by_cases h : i + 1 < s.size
  · rw [dif_pos h, dif_pos (by omega), b2 0 (by omega) (by omega)]
  · rw [dif_neg h, dif_neg (by omega)]
theorem made4 {s : ByteArray} : madeB s 20 [43, 45, 37, 47] = (szB s && allB (kindB [43, 45, 37, 47]) s s.size) := by
  unfold madeB szB
  congr 2
  rw [Bool.eq_iff_iff]
  simp only [decide_eq_true_eq]
  omega
theorem fmt_code (s : ByteArray) : formatB s = fmtC s := by
  obtain ⟨f0, f1⟩ := fmt_first s
  unfold fmtC
  rw [made4, Bool.and_assoc]
  by_cases hp : plainK s 0 = true
  · have al := (plainK_iff (Nat.zero_le _)).1 hp
    rw [f0 hp]
    have n1 : at_ s 37 < 0 := by
      apply Classical.byContradiction
      intro c
      obtain ⟨g, e, _⟩ := at_some (s := s) (c := 37) (o := (at_ s 37).toNat) (by omega)
      exact (ne_kind (al _ g (Nat.zero_le _))).1 (by rw [e]; rfl)
    have n2 : at_ s 47 < 0 := by
      apply Classical.byContradiction
      intro c
      obtain ⟨g, e, _⟩ := at_some (s := s) (c := 47) (o := (at_ s 47).toNat) (by omega)
      exact (ne_kind (al _ g (Nat.zero_le _))).2 (by rw [e]; rfl)
    rw [if_neg (by omega), if_neg (by omega), allB_iff.2 (fun j h _ => kind_in (al j h (Nat.zero_le _)))]
    simp
  · -- the first special byte
    obtain ⟨i, hi, hj, hk⟩ : ∃ (i : Nat) (h : i < s.size), (∀ (j : Nat) (g : j < s.size), j < i → kindB [43, 45] s[j].toNat = true) ∧ kindB [43, 45] s[i].toNat = false := by
      have lt : endOf K0 s 0 < s.size := by
        have := endOf_le (K := K0) (s := s) (k := 0) (Nat.zero_le _)
        unfold plainK at hp
        rw [decide_eq_true_eq] at hp
        omega
      exact ⟨endOf K0 s 0, lt, fun j g h => endOf_all (K := K0) s.size 0 (by omega) j g (Nat.zero_le _) h, endOf_at (K := K0) s.size 0 (by omega) lt⟩
    obtain ⟨g1, g2, g3⟩ := f1 i hi hj
    obtain ⟨z1, z2⟩ := behind_get hi
    by_cases h37 : s[i].toNat = 37
    · rw [g1 h37]
      have a37 : at_ s 37 = (i : Int) := by
        by_cases c : at_ s 37 < 0
        · exact absurd (UInt8.toNat_inj.1 (by rw [h37]; rfl)) (at_none c i hi)
        · obtain ⟨g, e, ah⟩ := at_some (s := s) (c := 37) (o := (at_ s 37).toNat) (by omega)
          have le : ¬ i < (at_ s 37).toNat := fun h => ah i hi h (UInt8.toNat_inj.1 (by rw [h37]; rfl))
          have ge : ¬ (at_ s 37).toNat < i := fun h => (ne_kind (hj _ g h)).1 (by rw [e]; rfl)
          omega
      rw [a37, if_pos (by omega), head_get hi, head_get hi]
      congr 1
      by_cases hz : i + 1 < s.size
      · rw [dif_pos hz, dif_pos hz, dif_pos hz]
        by_cases z : s[i + 1].toNat = 115 ∨ s[i + 1].toNat = 122
        · have ez : (decide (s[i + 1].toNat = 115) || decide (s[i + 1].toNat = 122)) = true := by
            rcases z with z | z
            · rw [decide_eq_true z]; rfl
            · rw [decide_eq_true z, Bool.or_true]
          rw [ez, decide_eq_true z, Bool.true_and, Bool.and_true, Bool.eq_iff_iff, plainK_iff (by omega)]
          simp only [Bool.and_eq_true, decide_eq_true_eq]
          constructor
          · intro al
            refine ⟨allB_iff.2 fun j h _ => ?_, ?_, ?_⟩
            · by_cases e1 : j < i
              · exact kind_in (hj j h e1)
              · by_cases e2 : j = i
                · subst e2; rw [h37]; decide
                · exact kind_in (al j h (by omega))
            · apply Classical.byContradiction
              intro c
              obtain ⟨g, e, _⟩ := at_some (s := s) (c := 47) (o := (at_ s 47).toNat) (by omega)
              have e47 : s[(at_ s 47).toNat].toNat = 47 := by rw [e]; rfl
              by_cases e1 : (at_ s 47).toNat < i
              · exact (ne_kind (hj _ g e1)).2 e47
              · by_cases e2 : (at_ s 47).toNat = i
                · simp only [e2] at e47; omega
                · exact (ne_kind (al _ g (by omega))).2 e47
            · apply Classical.byContradiction
              intro c
              obtain ⟨g, e, _⟩ := at_some (s := behindT s i) (c := 37) (o := (at_ (behindT s i) 37).toNat) (by omega)
              rw [z2 _ g (by omega)] at e
              exact (ne_kind (al (i + 1 + (at_ (behindT s i) 37).toNat) (by omega) (by omega))).1 (by rw [e]; rfl)
          · rintro ⟨ab, n47, n37⟩ j h hj2
            refine kind_out (allB_iff.1 ab j h h) ?_ ?_
            · have := at_none n37 (j - (i + 1)) (by omega)
              rw [z2 _ (by omega) (by omega)] at this
              simp only [show i + 1 + (j - (i + 1)) = j by omega] at this
              exact u8_ne (by omega) this
            · exact u8_ne (by omega) (at_none n47 j h)
        · have ez : (decide (s[i + 1].toNat = 115) || decide (s[i + 1].toNat = 122)) = false := by
            rw [decide_eq_false (fun c => z (.inl c)), decide_eq_false (fun c => z (.inr c))]
            rfl
          rw [ez, decide_eq_false z, Bool.false_and, Bool.and_false, Bool.and_false]
      · rw [dif_neg hz, dif_neg hz, dif_neg hz, Bool.false_and, Bool.or_false, Bool.and_false, Bool.and_false]
    · by_cases h47 : s[i].toNat = 47
      · rw [g2 h47]
        have a47 : at_ s 47 = (i : Int) := by
          by_cases c : at_ s 47 < 0
          · exact absurd (UInt8.toNat_inj.1 (by rw [h47]; rfl)) (at_none c i hi)
          · obtain ⟨g, e, ah⟩ := at_some (s := s) (c := 47) (o := (at_ s 47).toNat) (by omega)
            have le : ¬ i < (at_ s 47).toNat := fun h => ah i hi h (UInt8.toNat_inj.1 (by rw [h47]; rfl))
            have ge : ¬ (at_ s 47).toNat < i := fun h => (ne_kind (hj _ g h)).2 (by rw [e]; rfl)
            omega
        congr 1
        by_cases c37 : 0 ≤ at_ s 37
        · rw [if_pos c37, a47, decide_eq_false (p := (i : Int) < 0) (by omega), Bool.false_and, Bool.false_and, Bool.and_false]
          obtain ⟨g, e, ah⟩ := at_some (s := s) (c := 37) (o := (at_ s 37).toNat) (by omega)
          have e37 : s[(at_ s 37).toNat].toNat = 37 := by rw [e]; rfl
          have np : plainK s (i + 1) = false := by
            rw [← Bool.not_eq_true, plainK_iff (by omega)]
            intro al
            by_cases e1 : (at_ s 37).toNat < i
            · exact (ne_kind (hj _ g e1)).1 e37
            · by_cases e2 : (at_ s 37).toNat = i
              · simp only [e2] at e37; omega
              · exact (ne_kind (al _ g (by omega))).1 e37
          rw [np, Bool.and_false]
        · rw [if_neg c37, a47, if_pos (by omega)]
          have k1 : decide (¬ (i : Int) = 0) = decide (¬ i = 0) := by rw [Bool.eq_iff_iff]; simp only [decide_eq_true_eq]; omega
          have k2 : decide (¬ (behindT s i).size = 0) = decide (¬ i + 1 = s.size) := by rw [Bool.eq_iff_iff]; simp only [decide_eq_true_eq]; omega
          rw [k1, k2, Bool.eq_iff_iff]
          simp only [Bool.and_eq_true, decide_eq_true_eq, plainK_iff (show i + 1 ≤ s.size by omega)]
          constructor
          · rintro ⟨⟨i0, i1⟩, al⟩
            refine ⟨allB_iff.2 fun j h _ => ?_, ⟨i0, i1⟩, ?_⟩
            · by_cases e1 : j < i
              · exact kind_in (hj j h e1)
              · by_cases e2 : j = i
                · subst e2; rw [h47]; decide
                · exact kind_in (al j h (by omega))
            · apply Classical.byContradiction
              intro c
              obtain ⟨g, e, _⟩ := at_some (s := behindT s i) (c := 47) (o := (at_ (behindT s i) 47).toNat) (by omega)
              rw [z2 _ g (by omega)] at e
              exact (ne_kind (al (i + 1 + (at_ (behindT s i) 47).toNat) (by omega) (by omega))).2 (by rw [e]; rfl)
          · rintro ⟨ab, ⟨i0, i1⟩, n47⟩
            refine ⟨⟨i0, i1⟩, fun j h hj2 => kind_out (allB_iff.1 ab j h h) ?_ ?_⟩
            · exact u8_ne (by omega) (at_none (s := s) (c := 37) (by omega) j h)
            · have := at_none n47 (j - (i + 1)) (by omega)
              rw [z2 _ (by omega) (by omega)] at this
              simp only [show i + 1 + (j - (i + 1)) = j by omega] at this
              exact u8_ne (by omega) this
      · rw [g3 h37 h47 hk]
        have na : allB (kindB [43, 45, 37, 47]) s s.size = false := by
          refine allB_no hi ?_
          rw [kind4, hk, beq_eq_false_iff_ne.2 h37, beq_eq_false_iff_ne.2 h47]
          rfl
        rw [na, Bool.false_and, Bool.and_false]
def AbidesBox {α : Type} (B : Nat) (J : List α → World → Prop) : Prop := ∀ s W W' row, J s W → W.grownBy W' row → (∀ r, row = some r → r = B) → J s W'
def OwnBox {α : Type} (lo B : Nat) (I : List α → World → Prop) : Prop := ∀ s W W' row, I s W → W.grownBy W' row → (∀ r, row = some r → r = B ∨ lo ≤ r) → I s W'
theorem OwnBox.put {α : Type} {lo B : Nat} {I : List α → World → Prop} (h : OwnBox lo B I) {s : List α} {W : World} (hs : I s W) {r : Nat} (hr : lo ≤ r) (o : Obj) : I s (W.putObj r o) :=
  h s W _ (some r) hs (grownBy_putObj' W r o) fun q e => by cases e; exact .inr hr
theorem OwnBox.more {α : Type} {lo B : Nat} {I : List α → World → Prop} (h : OwnBox lo B I) {s : List α} {W : World} (hs : I s W) (o : Obj) : I s (W.alloc o) :=
  h s W _ none hs (World.grownBy_alloc W o none) fun q e => by cases e
theorem rangeFunc_box {F : Fence} {n : Nat} {P : Program} {w : World} {α : Type} {g : Operand} {ps : Array Tmp} {assign body : Code} {Q : Exit → Act → World → Prop} {a : Act}
    (out : F.round = none) (h1 : 1 ≤ n) {gf : Nat} {lb : Array Value} (hg : a.eval g = .func (.func gf) #[] lb) (hF : F.fn gf) (eg : ∀ args W, (callFunc gf args).run P W = .ok (.enter gf args) W)
    {encs : α → Array Value} {S Sp : List α → Prop} {N B : Nat} (hB : B < w.heap.size)
    (iter : ∀ (l : Nat) (J Jx : List α → World → Prop) (W : World), Below w.heap.size w W → AbidesBox B J → AbidesBox B Jx →
      (∀ pre x W1, J pre W1 → pre.length < N → YieldAt F (n - 1 - 1) P l (encs x) W1 fun e W' => (e = .returned (.bool true) ∧ J (pre ++ [x]) W' ∧ Below w.heap.size W1 W') ∨ (e = .returned (.bool false) ∧ Jx (pre ++ [x]) W')) →
      J [] W → CallsIn F (n - 1) P gf (#[.func (.yield l) #[] #[]] ++ lb) W fun e W' => (∃ v, e = .returned v) ∧ ((∃ xs, S xs ∧ J xs W') ∨ ∃ pre, Sp pre ∧ Jx pre W'))
    (hps : ∀ x, (encs x).size = ps.size) (I : List α → World → Prop) (Ix : Code → List α → World → Prop) (hI : OwnBox w.heap.size B I) (hIx : ∀ c, OwnBox w.heap.size B (Ix c)) (h0 : I [] w) (a₁ : α → Act)
    (asg : ∀ (l : Nat) (x : α) (W : World) (K : Act → World → Prop), K (a₁ x) W → assign.wpIn (F.inRound l) (n - 1 - 1) P (Exit.then K (fun _ _ _ => False)) { tmps := (ps.zip (encs x)).foldl (fun t (p, v) => t.setIfInBounds p v) a.tmps, defers := [] } W)
    (bod : ∀ (l : Nat) (pre : List α) (x : α) (W : World), I pre W → pre.length < N → body.wpIn (F.inRound l) (n - 1 - 1) P (ownPostG w.heap.size (Below w.heap.size) I Ix (pre ++ [x]) W) (a₁ x) W)
    (fin : ∀ (D : Nat) (xs : List α) (W : World), w.heap.size ≤ D → S xs → I xs W → W.heap[D]? = some (.deferred (some [])) → Q .normal { a with defers := { target := .collected D, args := #[] } :: a.defers } W)
    (off : ∀ (D : Nat) (c : Code) (pre : List α) (W : World), w.heap.size ≤ D → Sp pre → Ix c pre W → W.heap[D]? = some (.deferred (some [])) → c.wpIn F n P Q { a with defers := { target := .collected D, args := #[] } :: a.defers } W) :
    (Code.rangeFunc g ps assign body).wpIn F n P Q a w := by
  refine wpIn_rangeFunc fun fn hfn => ?_
  rw [out]
  obtain ⟨R, eR⟩ : ∃ R : LoopState → Option Code → Loop, R = fun st pe => { state := st, pending := pe, fn, tmps := a.tmps, params := ps, assign, body, defers := w.heap.size } := ⟨_, rfl⟩
  have sz1 : (w.alloc (.deferred (some []))).heap.size = w.heap.size + 1 := World.size_alloc _ _
  obtain ⟨V, eV⟩ : ∃ V, (w.alloc (.deferred (some []))).alloc (.loop (R .ready none)) = V := ⟨_, rfl⟩
  have vL : V.heap[w.heap.size + 1]? = some (.loop (R .ready none)) := by
    have := World.alloc_heap_new (w.alloc (.deferred (some []))) (.loop (R .ready none))
    rwa [sz1, eV] at this
  have vD : V.heap[w.heap.size]? = some (.deferred (some [])) := by
    rw [← eV]
    exact (Below.heap_alloc _ _ _ (by rw [sz1]; omega)).trans (World.alloc_heap_new w _)
  have vI : I [] V := by rw [← eV]; exact hI.more (hI.more h0 _) _
  have vB : Below w.heap.size w V := by rw [← eV]; exact ((Below.refl _ w).alloc (Nat.le_refl _) _).alloc (by rw [sz1]; omega) _
  refine ⟨w.heap.size + 1, [{ target := .collected w.heap.size, args := #[] }], V, { target := .fn (.func gf) lb, args := #[.func (.yield (w.heap.size + 1)) #[] #[]] }, V, gf,
    #[.func (.yield (w.heap.size + 1)) #[] #[]] ++ lb, V, ?_, ?_, ?_, ?_, fun _ => h1, ?_⟩
  · rw [← eV, eR]; exact run_enterLoop_outer _ _ _ _ _
  · simp only [resolve, hg]
    simp [go_sem]
  · intro f' hf'
    simp [Target.leads] at hf'
    subst hf'
    exact hF
  · simp [invoke, go_sem, eg]
  have own : ∀ {X Y : World} {row : Option Nat} {k : Nat} {o : Obj}, X.grownBy Y row → (∀ r, row = some r → r = B) → w.heap.size ≤ k → X.heap[k]? = some o → Y.heap[k]? = some o := fun gr hr hk e =>
    (gr.block _ (Array.getElem?_eq_some_iff.1 e).1 fun c => by have := hr _ c.symm; omega).trans e
  refine (iter (w.heap.size + 1)
    (fun pre W => I pre W ∧ W.heap[w.heap.size + 1]? = some (.loop (R .ready none)) ∧ W.heap[w.heap.size]? = some (.deferred (some [])))
    (fun pre W => ∃ c, Ix c pre W ∧ W.heap[w.heap.size + 1]? = some (.loop (R .done (some c))) ∧ W.heap[w.heap.size]? = some (.deferred (some [])))
    V vB
    (fun s X Y row hs gr hr => ⟨hI s X Y row hs.1 gr fun r e => .inl (hr r e), own gr hr (by omega) hs.2.1, own gr hr (Nat.le_refl _) hs.2.2⟩)
    (fun s X Y row ⟨c, hc, hl, hk⟩ gr hr => ⟨c, hIx c s X Y row hc gr fun r e => .inl (hr r e), own gr hr (by omega) hl, own gr hr (Nat.le_refl _) hk⟩)
    ?_ ⟨vI, vL, vD⟩).mono ?_
  · rintro pre x W ⟨hi, hl, hk⟩ len
    have lt := (Array.getElem?_eq_some_iff.1 hl).1
    have hy := run_yield (P := P) (args := encs x) hl (by rw [eR]; exact hps x)
    rw [eR] at hy
    refine ⟨fn, _, assign, body, hy, roundIn_of_wpIn hfn (asg _ x W _ ?_)⟩
    clear hy
    refine ⟨_, run_beginRound hl (by rw [eR]), ?_⟩
    have hl2 : (W.putObj (w.heap.size + 1) (.loop { R .ready none with state := .busy })).heap[w.heap.size + 1]? = some (.loop { R .ready none with state := .busy }) := World.putObj_heap_same lt
    have hk2 : (W.putObj (w.heap.size + 1) (.loop { R .ready none with state := .busy })).heap[w.heap.size]? = some (.deferred (some [])) := (World.putObj_heap_other (by omega)).trans hk
    refine wpIn_mono (bod _ pre x _ (hI.put hi (by omega) _) len) ?_
    have back : ∀ (jump : Option Code) (W3 : World), KeepsFrom w.heap.size (W.putObj (w.heap.size + 1) (.loop { R .ready none with state := .busy })) W3 →
        (Instr.endRound (w.heap.size + 1) jump).run P W3 = .ok (.bool jump.isNone) (W3.putObj (w.heap.size + 1) (.loop (R (if jump.isNone then .ready else .done) jump))) ∧
        (W3.putObj (w.heap.size + 1) (.loop (R (if jump.isNone then .ready else .done) jump))).heap[w.heap.size + 1]? = some (.loop (R (if jump.isNone then .ready else .done) jump)) ∧
        (W3.putObj (w.heap.size + 1) (.loop (R (if jump.isNone then .ready else .done) jump))).heap[w.heap.size]? = some (.deferred (some [])) := fun jump W3 hk3 => by
      have hl3 := hk3.same _ _ (by omega) hl2 rfl
      have r := run_endRound (P := P) jump hl3
      rw [eR] at r ⊢
      exact ⟨r, World.putObj_heap_same (Array.getElem?_eq_some_iff.1 hl3).1, (World.putObj_heap_other (by omega)).trans (hk3.same _ _ (Nat.le_refl _) hk2 rfl)⟩
    have pb : ∀ (X : World) (o : Obj), Below w.heap.size X (X.putObj (w.heap.size + 1) o) := fun X o => ⟨rfl, rfl, rfl, by simp, fun k hk' => World.putObj_heap_other (by omega)⟩
    rintro e a3 W3 hp
    cases e with
    | normal =>
      obtain ⟨k3, b3, i3⟩ := hp
      obtain ⟨r, l4, d4⟩ := back none W3 k3
      exact ⟨_, _, r, .inl ⟨rfl, ⟨hI.put i3 (by omega) _, l4, d4⟩, ((pb _ _).trans b3).trans (pb _ _)⟩⟩
    | ret =>
      obtain ⟨k3, i3⟩ := hp
      obtain ⟨r, l4, d4⟩ := back (some .ret) W3 k3
      exact ⟨_, _, r, .inr ⟨rfl, .ret, (hIx _).put i3 (by omega) _, l4, d4⟩⟩
    | exit id =>
      obtain ⟨k3, i3⟩ := hp
      obtain ⟨r, l4, d4⟩ := back (some (.exit id)) W3 k3
      exact ⟨_, _, r, .inr ⟨rfl, .exit id, (hIx _).put i3 (by omega) _, l4, d4⟩⟩
    | goto t =>
      obtain ⟨k3, i3⟩ := hp
      obtain ⟨r, l4, d4⟩ := back (some (.goto t)) W3 k3
      exact ⟨_, _, r, .inr ⟨rfl, .goto t, (hIx _).put i3 (by omega) _, l4, d4⟩⟩
    | panic ch => exact hp.elim
    | outgrown => exact hp.elim
  · rintro e W2 ⟨⟨v, rfl⟩, (⟨xs, hS, hi, hl, hk⟩ | ⟨pre, hSp, c, hi, hl, hk⟩)⟩
    · exact ⟨none, _, by have := run_endLoop (P := P) hl (by rw [eR]; simp); rw [eR] at this; exact this, fin _ xs _ (Nat.le_refl _) hS (hI.put hi (by omega) _) ((World.putObj_heap_other (by omega)).trans hk)⟩
    · exact ⟨some c, _, by have := run_endLoop (P := P) hl (by rw [eR]; simp); rw [eR] at this; exact this, off _ c pre _ (Nat.le_refl _) hSp ((hIx c).put hi (by omega) _) ((World.putObj_heap_other (by omega)).trans hk)⟩
end Go.Proofs.YtmhpnmlgfdomkaaGreatDoor
namespace Go.Proofs.YtmhpnmlgfdomkaaGreatDoor
open Go.RowKit Go.Shelf
attribute [local go_sem] Oper.semAt_some
theorem seq_made (n : Nat) (s t : ByteArray) (w : World) :
    CallsIn Fence.wide n Tryz.prog 109 #[.string s, .string t, .int .i64 0] w fun e w' => e = .returned (.func (.func 125) #[] #[.pointer (some ⟨w.heap.size + 1, 0, none⟩), .pointer (some ⟨w.heap.size, 0, none⟩), .pointer (some ⟨w.heap.size + 2, 0, none⟩)]) ∧
      w' = ((w.alloc (.cells #[.string s] 9)).alloc (.cells #[.string t] 9)).alloc (.cells #[.int .i64 0] 3) := by
  refine callsIn_of_wp Tryz.func109 rfl trivial ?_ rfl
  simp only [Tryz.ntmps109, List.size_toArray, List.length_cons, List.length_nil, Nat.reduceAdd, Nat.reduceSub, Array.replicate_succ, Array.replicate_zero, List.push_toArray, List.append_toArray, List.nil_append, List.cons_append]
  gi_wp2
  go_ret
  exact ⟨rfl, rfl⟩
theorem seqs_made (n : Nat) (hn : 1 ≤ n) (s t : ByteArray) (w : World) :
    CallsIn Fence.wide n Tryz.prog 84 #[.string s, .string t] w fun e w' => e = .returned (.func (.func 125) #[] #[.pointer (some ⟨w.heap.size + 1, 0, none⟩), .pointer (some ⟨w.heap.size, 0, none⟩), .pointer (some ⟨w.heap.size + 2, 0, none⟩)]) ∧
      w' = ((w.alloc (.cells #[.string s] 9)).alloc (.cells #[.string t] 9)).alloc (.cells #[.int .i64 0] 3) := by
  refine callsIn_of_wp Tryz.func84 rfl trivial ?_ rfl
  simp only [Tryz.ntmps84, List.size_toArray, List.length_cons, List.length_nil, Nat.reduceAdd, Nat.reduceSub, Array.replicate_succ, Array.replicate_zero, List.push_toArray, List.append_toArray, List.nil_append, List.cons_append]
  gi_wp2_with (refine ⟨trivial, ?_⟩; gi_at_call 109; refine (seq_made _ _ _ _).mono ?_; rintro e w' ⟨rfl, rfl⟩)
  gi_wp2
  go_ret
  exact ⟨rfl, rfl⟩
theorem rest_sl {s : ByteArray} {a : Nat} (ha : a ≤ s.size) : endOf noSl (s.extract a s.size) 0 = endOf noSl s a - a := by
  obtain ⟨e1, e2⟩ := endOf_le (K := noSl) ha
  have sz : (s.extract a s.size).size = s.size - a := by simp
  have gt : ∀ (j : Nat) (h : j < (s.extract a s.size).size), (s.extract a s.size)[j] = s[a + j]'(by rw [sz] at h; omega) := fun j h => ByteArray.getElem_extract h
  refine endOf_eq (Nat.zero_le _) (by omega) (fun j g _ hj => ?_) (fun g => ?_)
  · rw [gt]
    exact endOf_all s.size a (by omega) (a + j) (by rw [sz] at g; omega) (by omega) (by omega)
  · rw [gt]
    have := endOf_at (K := noSl) (s := s) s.size a (by omega) (by rw [sz] at g; omega)
    simp only [show a + (endOf noSl s a - a) = endOf noSl s a from by omega]
    exact this
def strOf : Option Value → ByteArray
  | some (.string r) => r
  | _ => ⟨#[]⟩
theorem split_in (n : Nat) (hn : 1 ≤ n) (l b lo : Nat) (hlo : b + 2 < lo) (s : ByteArray) (hs : s.size ≤ 1000) (J Jx : List Line → World → Prop) (W : World) (hJ : AbidesBox b J) (_hJx : AbidesBox b Jx)
    (hY : ∀ pre x W1, J pre W1 → pre.length < s.size + 1 → YieldAt Fence.wide (n - 1) Tryz.prog l #[.string x.1] W1 fun e W' =>
      (e = .returned (.bool true) ∧ J (pre ++ [x]) W' ∧ Below lo W1 W') ∨ (e = .returned (.bool false) ∧ Jx (pre ++ [x]) W'))
    (hb : Blk W b [.string s]) (hb1 : Blk W (b + 1) [.string ⟨#[47]⟩]) (hb2 : Blk W (b + 2) [.int .i64 0]) (h0 : J [] W) :
    CallsIn Fence.wide n Tryz.prog 125 #[.func (.yield l) #[] #[], .pointer (some ⟨b + 1, 0, none⟩), .pointer (some ⟨b, 0, none⟩), .pointer (some ⟨b + 2, 0, none⟩)] W fun e W' => (∃ v, e = .returned v) ∧
      ((∃ ys, bytesOf ys = slsFrom s 0 ∧ J ys W') ∨ (∃ pre, (∃ r, bytesOf pre ++ r = slsFrom s 0) ∧ Jx pre W')) := by
  obtain ⟨_, c1, _⟩ := hb1.one
  refine callsIn_of_wp Tryz.func125 rfl trivial ?_ rfl
  simp only [Tryz.ntmps125, List.size_toArray, List.length_cons, List.length_nil, Nat.reduceAdd, Nat.reduceSub, Array.replicate_succ, Array.replicate_zero, List.push_toArray, List.append_toArray, List.nil_append, List.cons_append]
  gi_wp2
  gi_loopw [7, 8] (fun v7 v8 wr => ∃ (pre : List Line) (a : Nat), a ≤ s.size ∧ Blk wr b [.string (s.extract a s.size)] ∧ Blk wr (b + 1) [.string ⟨#[47]⟩] ∧ Blk wr (b + 2) [.int .i64 0] ∧ bytesOf pre ++ slsFrom s a = slsFrom s 0 ∧ pre.length ≤ a ∧ J pre wr) (fun _ _ wr => (strOf (wr.cell? ⟨b, 0, none⟩)).size)
  case atStart => exact ⟨[], 0, Nat.zero_le _, by simpa using hb, hb1, hb2, rfl, Nat.zero_le _, h0⟩
  case round =>
    obtain ⟨pre, a, ha, hb, hb1, hb2, hx, hp, hJs⟩ := hrel
    obtain ⟨_, c0, f0⟩ := hb.one
    obtain ⟨_, c1, _⟩ := hb1.one
    obtain ⟨_, c2, _⟩ := hb2.one
    obtain ⟨e1, e2⟩ := endOf_le (K := noSl) ha
    obtain ⟨i1, i2⟩ := idx_sl (s.extract a s.size)
    rw [rest_sl ha] at i1 i2
    have szr : (s.extract a s.size).size = s.size - a := by simp
    have IW := Lib.hid (fun w => callsIn_wide.2 (ystrings_Index_one (s.extract a s.size) 47 w) : ∀ w, CallsIn Fence.wide (n - 1) Tryz.prog 127 #[.string (s.extract a s.size), .string ⟨#[47]⟩] w fun e w' => e = .returned (.int .i64 (Lib.indexByte (s.extract a s.size).data.toList 47)) ∧ w' = w)
    have ho : strOf (wr.cell? ⟨b, 0, none⟩) = s.extract a s.size := by rw [c0]; rfl
    by_cases h : endOf noSl s a < s.size
    · rw [i1 (by omega)] at IW
      rw [sls_cut h] at hx
      have U : (s.extract a s.size).extract 0 (endOf noSl s a - a) = s.extract a (endOf noSl s a) := by
        rw [ByteArray.extract_extract]
        congr 1 <;> omega
      have V : (s.extract a s.size).extract (endOf noSl s a - a + 1) (s.size - a) = s.extract (endOf noSl s a + 1) s.size := by
        rw [ByteArray.extract_extract]
        congr 1 <;> omega
      have zu : (s.extract a (endOf noSl s a)).size ≤ 1000000 := by simp only [ByteArray.size_extract]; omega
      have HX := Lib.hid hx
      have HV := Lib.hid V
      clear hx i1 i2 V
      generalize endOf noSl s a = k at *
      have k1 : IntKind.i64.wrap (((k - a : Nat) : Int) + 0) = ((k - a : Nat) : Int) := IntWalk.i64_in _ (by omega)
      have k2 : IntKind.i64.wrap (((k - a : Nat) : Int) + 1) = ((k - a + 1 : Nat) : Int) := by rw [IntWalk.i64_in _ (by omega)]; omega
      have d0 : decide (((k - a : Nat) : Int) < 0) = false := decide_eq_false (by omega)
      have q1 : k - a ≤ (s.extract a s.size).size := by omega
      have q2 : k - a + 1 ≤ (s.extract a s.size).size := by omega
      have HS := Lib.hid (szr)
      generalize s.extract a s.size = r at *
      generalize k - a = m at *
      obtain ⟨fn, tmps, assign, body, hy, hR⟩ := hY pre ⟨s.extract a k, zu⟩ _ hJs (by omega)
      dsimp only at hy
      gi_wp2_with (refine ⟨trivial, ?_⟩; gi_at_call 127; refine (IW.out _).mono ?_; clear IW; rintro e w' ⟨rfl, rfl⟩)
      refine hR.mono ?_
      rintro e W3 (⟨rfl, hJ3, hk3⟩ | ⟨rfl, hJx3⟩)
      · have kb := blk_lo hk3 (by omega) hb
        have kb1 := blk_lo hk3 (by omega) hb1
        have kb2 := blk_lo hk3 (by omega) hb2
        clear hb hb1 hb2 c0 c1 c2 f0
        obtain ⟨_, c0, f0⟩ := kb.one
        obtain ⟨_, c1, _⟩ := kb1.one
        obtain ⟨_, c2, _⟩ := kb2.one
        gi_wp2
        go_roundw
        case rel => exact ⟨pre ++ [⟨s.extract a k, zu⟩], k + 1, by omega, by rw [HV.out]; exact kb.self1 _, kb1.far (by omega) 0 _, kb2.far (by omega) 0 _, by rw [bytes_snoc, List.append_assoc]; exact HX.out, by simp; omega, hJ _ _ _ (some b) hJ3 (grownBy_setCell' W3 b _) (fun r e => by cases e; rfl)⟩
        case measure =>
          rw [ho, HV.out, World.cell?_setCell_same _ _ _ c0]
          show (s.extract (k + 1) s.size).size < r.size
          rw [HS.out]
          simp only [ByteArray.size_extract]
          omega
      · gi_wp2
        refine bodyPost_ret (results_none rfl _ _ _) rfl ?_
        exact ⟨⟨_, rfl⟩, .inr ⟨_, ⟨_, by rw [bytes_snoc, List.append_assoc]; exact HX.out⟩, hJx3⟩⟩
    · have ee : endOf noSl s a = s.size := by omega
      rw [i2 (by omega)] at IW
      rw [sls_end h] at hx
      have HX := Lib.hid hx
      clear hx i1 i2
      have zu : (s.extract a s.size).size ≤ 1000000 := by omega
      obtain ⟨fn, tmps, assign, body, hy, hR⟩ := hY pre ⟨s.extract a s.size, zu⟩ _ hJs (by omega)
      dsimp only at hy
      generalize s.extract a s.size = r at *
      gi_wp2_with (refine ⟨trivial, ?_⟩; gi_at_call 127; refine (IW.out _).mono ?_; clear IW; rintro e w' ⟨rfl, rfl⟩)
      refine hR.mono ?_
      rintro e W3 (⟨rfl, hJ3, hk3⟩ | ⟨rfl, hJx3⟩)
      · gi_wp2
        go_end0
        exact ⟨⟨_, rfl⟩, .inl ⟨_, by rw [bytes_snoc]; exact HX.out, hJ3⟩⟩
      · gi_wp2
        go_end0
        exact ⟨⟨_, rfl⟩, .inr ⟨_, ⟨[], by rw [bytes_snoc, List.append_nil]; exact HX.out⟩, hJx3⟩⟩
def partB (t : ByteArray) : Bool := madeB t 40 [95, 43, 45]
theorem all_parts {s : ByteArray} {ys : List Line} (e : bytesOf ys = slsFrom s 0) (h : ∀ x ∈ ys, partB x.1 = true) : (slsFrom s 0).all partB = true := by
  rw [← e, List.all_eq_true]
  intro t ht
  obtain ⟨x, hx, rfl⟩ := List.mem_map.1 ht
  exact h x hx
theorem no_parts {s : ByteArray} {pre : List Line} {r : List ByteArray} (e : bytesOf pre ++ r = slsFrom s 0) (h : ∃ x ∈ pre, partB x.1 = false) : (slsFrom s 0).all partB = false := by
  obtain ⟨x, hx, h⟩ := h
  rw [← e, ← Bool.not_eq_true, List.all_eq_true]
  intro c
  rw [c x.1 (List.mem_append_left _ (List.mem_map.2 ⟨x, hx, rfl⟩))] at h
  cases h
theorem placeP (s : ByteArray) (hs : s.size ≤ maxLen) (w : World) : Calls Tryz.prog 54 #[.string s] w (RetV w (.bool (placeB s))) := by
  have sz : s.size ≤ 9223372036854775807 := hs
  have EP : Hid (placeB s = (decide ((s.size : Int) ≤ 40) && (slsFrom s 0).all partB)) := Lib.hid (place_parts s)
  by_cases h40 : 40 < s.size
  · have d1 : decide (40 < (s.size : Int)) = true := decide_eq_true (by omega)
    have E := Lib.hid (show placeB s = false by rw [EP.out, decide_eq_false (by omega), Bool.false_and])
    go_enter Tryz.func54, Tryz.ntmps54
    go_wp2
    exact bodyPost_ret (v := .bool false) (by simp [results, Tryz.results54, go_sem]) rfl ⟨by rw [E.out], below_box _ _⟩
  have d1 : decide (40 < (s.size : Int)) = false := decide_eq_false (by omega)
  have E := Lib.hid (show placeB s = (slsFrom s 0).all partB by rw [EP.out, decide_eq_true (by omega), Bool.true_and])
  refine (callsIn_wide (n := 6)).1 ?_
  refine callsIn_of_wp_marks Tryz.func54 rfl trivial ?_ rfl
  simp only [Tryz.ntmps54, List.size_toArray, List.length_cons, List.length_nil, Nat.reduceAdd, Nat.reduceSub, Array.replicate_succ, Array.replicate_zero, List.push_toArray, List.append_toArray, List.nil_append, List.cons_append]
  gi_wp2_with (refine ⟨trivial, ?_⟩; gi_at_call 84; refine (seqs_made _ (by omega) _ _ _).mono ?_; rintro e w' ⟨rfl, rfl⟩)
  have MD := Lib.hid (fun (x : Line) w => callsIn_wide.2 (madeP x.1 ⟨#[95, 43, 45]⟩ 40 [95, 43, 45] rfl (by have := x.2; unfold maxLen; omega) w) : ∀ (x : Line) w, CallsIn Fence.wide 3 Tryz.prog 80 #[.string x.1, .int .i64 40, .string ⟨#[95, 43, 45]⟩] w (SameV w (.bool (partB x.1))))
  have hr := Blk.new1 w (.bool false) 4
  have h1 := Blk.new1 (w.alloc (.cells #[.bool false] 4)) (.string s) 9
  have h2 := Blk.new1 ((w.alloc (.cells #[.bool false] 4)).alloc (.cells #[.string s] 9)) (.string ⟨#[47]⟩) 9
  have h3 := Blk.new1 (((w.alloc (.cells #[.bool false] 4)).alloc (.cells #[.string s] 9)).alloc (.cells #[.string ⟨#[47]⟩] 9)) (.int .i64 0) 3
  have b1 := below_box w (.cells #[.bool false] 4)
  have b2 := below_box (w.alloc (.cells #[.bool false] 4)) (.cells #[.string s] 9)
  have b3 := below_box ((w.alloc (.cells #[.bool false] 4)).alloc (.cells #[.string s] 9)) (.cells #[.string ⟨#[47]⟩] 9)
  have b4 := below_box (((w.alloc (.cells #[.bool false] 4)).alloc (.cells #[.string s] 9)).alloc (.cells #[.string ⟨#[47]⟩] 9)) (.cells #[.int .i64 0] 3)
  replace hr := ((hr.below b2).below b3).below b4
  replace h1 := (h1.below b3).below b4
  replace h2 := h2.below b4
  have hB := below_thru (below_thru (below_thru b1 b2) b3) b4
  clear b1 b2 b3 b4
  have hz : ((((w.alloc (.cells #[.bool false] 4)).alloc (.cells #[.string s] 9)).alloc (.cells #[.string ⟨#[47]⟩] 9)).alloc (.cells #[.int .i64 0] 3)).heap.size = w.heap.size + 4 := by simp
  simp only [World.size_alloc] at h1 h2 h3
  generalize ((((w.alloc (.cells #[.bool false] 4)).alloc (.cells #[.string s] 9)).alloc (.cells #[.string ⟨#[47]⟩] 9)).alloc (.cells #[.int .i64 0] 3)) = W0 at *
  refine rangeFunc_box (F := Fence.wide) (n := 6) (α := Line) rfl (by omega) (gf := 125) (lb := #[.pointer (some ⟨w.heap.size + 1 + 1, 0, none⟩), .pointer (some ⟨w.heap.size + 1, 0, none⟩), .pointer (some ⟨w.heap.size + 1 + 2, 0, none⟩)]) rfl trivial (enters_of Tryz.func125 (by kernel_rfl) rfl)
    (encs := fun x => #[.string x.1]) (S := fun ys => bytesOf ys = slsFrom s 0) (Sp := fun pre => ∃ r, bytesOf pre ++ r = slsFrom s 0) (N := s.size + 1) (B := w.heap.size + 1) (by omega)
    (fun l J Jx W hW hJ hJx hY h0 => split_in 5 (by omega) l (w.heap.size + 1) W0.heap.size (by omega) s (by omega) J Jx W hJ hJx hY (h1.below hW) (h2.below hW) (h3.below hW) h0)
    (fun _ => rfl)
    (fun pre W => Blk W w.heap.size [.bool false] ∧ (∀ x ∈ pre, partB x.1 = true) ∧ Below w.heap.size w W)
    (fun c pre W => c = .ret ∧ Blk W w.heap.size [.bool false] ∧ (∃ x ∈ pre, partB x.1 = false) ∧ Below w.heap.size w W)
    (fun _ _ _ _ hs gr hr => ⟨blk_grown gr (fun r e => by have := hr r e; omega) hs.1, hs.2.1, below_grown gr (fun r e => by have := hr r e; omega) hs.2.2 (Nat.le_refl _)⟩)
    (fun _ _ _ _ _ hs gr hr => ⟨hs.1, blk_grown gr (fun r e => by have := hr r e; omega) hs.2.1, hs.2.2.1, below_grown gr (fun r e => by have := hr r e; omega) hs.2.2.2 (Nat.le_refl _)⟩)
    ⟨hr, (fun _ h => by cases h), hB⟩
    (fun x => { tmps := #[.string s, undef, .pointer (some ⟨w.heap.size, 0, none⟩), .string x.1, .string s, .int .i64 s.size, .bool false, .string s, .func (.func 125) #[] #[.pointer (some ⟨w.heap.size + 1 + 1, 0, none⟩), .pointer (some ⟨w.heap.size + 1, 0, none⟩), .pointer (some ⟨w.heap.size + 1 + 2, 0, none⟩)], .string x.1, undef, undef, undef], defers := [] }) ?asg ?bod ?fin ?off
  case asg =>
    intro l x W K hK
    gi_wp2
    exact hK
  case bod =>
    rintro l pre x W ⟨hr, ha, hB⟩ hlt
    obtain ⟨_, c0, f0⟩ := hr.one
    cases e1 : partB x.1 with
    | true =>
      have MW := Lib.hid (MD.out x)
      rw [e1] at MW
      have HA := Lib.hid (show ∀ y ∈ pre ++ [x], partB y.1 = true from fun y hy => by
        rcases List.mem_append.1 hy with h | h
        · exact ha y h
        · rw [List.mem_singleton.1 h]; exact e1)
      have HB := Lib.hid hB
      clear ha e1 MD hB
      gi_wp2_with (refine ⟨trivial, ?_⟩; gi_at_call 80; refine (CallsIn.inRound l (MW.out _)).mono ?_; clear MW; rintro e w' ⟨rfl, rfl⟩)
      exact ⟨KeepsFrom.refl _ _, Below.refl _ _, hr, HA.out, HB.out⟩
    | false =>
      have MW := Lib.hid (MD.out x)
      rw [e1] at MW
      have HA := Lib.hid (show ∃ y ∈ pre ++ [x], partB y.1 = false from ⟨x, List.mem_append_right _ (List.mem_singleton.2 rfl), e1⟩)
      have HB := Lib.hid hB
      clear ha e1 MD hB
      gi_wp2_with (refine ⟨trivial, ?_⟩; gi_at_call 80; refine (CallsIn.inRound l (MW.out _)).mono ?_; clear MW; rintro e w' ⟨rfl, rfl⟩)
      exact ⟨(KeepsOthers.setCell _ _ _).from _, rfl, hr.self1 _, HA.out, HB.out.setCell (p := ⟨w.heap.size, 0, none⟩) (Nat.le_refl _) _⟩
  case fin =>
    rintro D ys W hD hys ⟨hr, ha, hB⟩ hK
    have E2 := Lib.hid (E.out.trans (all_parts hys ha))
    obtain ⟨_, c0, f0⟩ := hr.one
    clear hys ha
    gi_wp2
    have hr2 := hr.self1 (.bool true)
    have hB2 := hB.setCell (p := ⟨w.heap.size, 0, none⟩) (Nat.le_refl _) (.bool true)
    have hK2 : (W.setCell ⟨w.heap.size, 0, none⟩ (.bool true)).heap[D]? = some (.deferred (some [])) := (Below.heap_setCell W ⟨w.heap.size, 0, none⟩ (.bool true) D (by show D ≠ w.heap.size; omega)).trans hK
    generalize W.setCell ⟨w.heap.size, 0, none⟩ (.bool true) = W2 at *
    refine ⟨by simp, .inl ⟨_, _, rfl, run_takeDeferred hK2, ?_⟩⟩
    have gr := grownBy_putObj' W2 D (.deferred none)
    have hr3 := blk_grown gr (fun r e => by cases e; omega) hr2
    obtain ⟨_, c3, _⟩ := hr3.one
    exact ⟨.bool true, by simp [results, Tryz.results54, go_sem, c3], by rw [E2.out], below_grown gr (fun r e => by cases e; omega) hB2 (Nat.le_refl _)⟩
  case off =>
    rintro D c pre W hD ⟨r, hp⟩ ⟨rfl, hr, ha, hB⟩ hK
    have E2 := Lib.hid (E.out.trans (no_parts hp ha))
    obtain ⟨_, c0, f0⟩ := hr.one
    clear hp ha
    gi_wp2
    refine ⟨by simp, .inl ⟨_, _, rfl, run_takeDeferred hK, ?_⟩⟩
    have gr := grownBy_putObj' W D (.deferred none)
    have hr3 := blk_grown gr (fun r e => by cases e; omega) hr
    obtain ⟨_, c3, _⟩ := hr3.one
    exact ⟨.bool false, by simp [results, Tryz.results54, go_sem, c3], by rw [E2.out], below_grown gr (fun r e => by cases e; omega) hB (Nat.le_refl _)⟩
end Go.Proofs.YtmhpnmlgfdomkaaGreatDoor
namespace Go.Proofs.YtmhpnmlgfdomkaaGreatDoor
open Go.RowKit
theorem full_text {t : ByteArray} (h : ¬ t.size = 0) : (t.toList == []) = false ∧ t.toList.isEmpty = false ∧ ¬ t.toList = [] := by
  have n : ¬ t.toList = [] := ne_toList h
  exact ⟨by rw [beq_eq_false_iff_ne]; exact n, List.isEmpty_eq_false_iff.2 n, n⟩
theorem containsP (s : ByteArray) (c : UInt8) (w : World) : Calls Tryz.prog 111 #[.string s, .string ⟨#[c]⟩] w (SameV w (.bool (decide (0 ≤ at_ s c)))) := by
  have IX : Hid (∀ W, Calls Tryz.prog 127 #[.string s, .string ⟨#[c]⟩] W fun e w' => e = .returned (.int .i64 (at_ s c)) ∧ w' = W) := Lib.hid (fun W => ystrings_Index_one s c W)
  by_cases h : 0 ≤ at_ s c
  · have d : decide (0 ≤ at_ s c) = true := decide_eq_true h
    generalize at_ s c = i at *
    go_enter Tryz.func111, Tryz.ntmps111
    go_wp2_with (go_at_call 127; refine (IX.out _).mono ?_; rintro e w' ⟨rfl, rfl⟩)
    go_ret
    exact ⟨by simp [d], rfl⟩
  · have d : decide (0 ≤ at_ s c) = false := decide_eq_false h
    generalize at_ s c = i at *
    go_enter Tryz.func111, Tryz.ntmps111
    go_wp2_with (go_at_call 127; refine (IX.out _).mono ?_; rintro e w' ⟨rfl, rfl⟩)
    go_ret
    exact ⟨by simp [d], rfl⟩
theorem one_eq {s : ByteArray} {c : UInt8} (h : 0 < s.size) : (s.extract 0 1).toList = [c] ↔ s[0].toNat = c.toNat := by
  have e : s.extract 0 1 = ⟨#[s[0]]⟩ := by
    apply ByteArray.ext
    apply Array.ext
    · show (s.extract 0 1).size = 1
      simp only [ByteArray.size_extract]
      omega
    · intro j h1 h2
      have h2' : j < 1 := h2
      have hz : j = 0 := by omega
      subst hz
      exact ByteArray.getElem_extract (show 0 < (s.extract 0 1).size from h1)
  rw [e, ByteArray.toList_eq]
  constructor
  · intro k
    simp at k
    rw [k]
  · intro k
    simp
    exact UInt8.toNat_inj.1 k
theorem prefixP (s : ByteArray) (c : UInt8) (hs : s.size ≤ maxLen) (w : World) : Calls Tryz.prog 112 #[.string s, .string ⟨#[c]⟩] w (SameV w (.bool (headB s c.toNat))) := by
  have sz : s.size ≤ 9223372036854775807 := hs
  by_cases h : 0 < s.size
  · have d : decide ((1 : Int) ≤ s.size) = true := decide_eq_true (by omega)
    have q1 : 1 ≤ s.size := h
    by_cases k : s[0].toNat = c.toNat
    · have E := Lib.hid (show headB s c.toNat = true by unfold headB; rw [dif_pos h, decide_eq_true k])
      have T : ((s.extract 0 1).toList == [c]) = true := by rw [beq_iff_eq]; exact (one_eq h).2 k
      clear k
      go_enter Tryz.func112, Tryz.ntmps112
      go_wp2
      go_ret
      exact ⟨by rw [E.out]; simp, rfl⟩
    · have E := Lib.hid (show headB s c.toNat = false by unfold headB; rw [dif_pos h, decide_eq_false k])
      have T : ((s.extract 0 1).toList == [c]) = false := by rw [beq_eq_false_iff_ne]; exact fun e => k ((one_eq h).1 e)
      clear k
      go_enter Tryz.func112, Tryz.ntmps112
      go_wp2
      go_ret
      exact ⟨by rw [E.out]; simp, rfl⟩
  · have d : decide ((1 : Int) ≤ s.size) = false := decide_eq_false (by omega)
    have E := Lib.hid (show headB s c.toNat = false from dif_neg h)
    go_enter Tryz.func112, Tryz.ntmps112
    go_wp2
    go_ret
    exact ⟨by rw [E.out]; simp, rfl⟩
def Ret3Dr (w : World) (a b : ByteArray) (f : Bool) (e : Ending) (w' : World) : Prop := e = .returned (.tuple #[.string a, .string b, .bool f]) ∧ ∃ n, w' = w.drewN n
theorem cut1L (s : ByteArray) (c : UInt8) (hs : s.size ≤ 1000000) (w : World) : Calls Tryz.prog 128 #[.string s, .string ⟨#[c]⟩] w (if 0 ≤ at_ s c then Ret3Dr w (s.extract 0 (at_ s c).toNat) (behindT s (at_ s c)) true else Ret3Dr w s ⟨#[]⟩ false) := by
  have IW : Hid (∀ W, Calls Tryz.prog 143 #[.string s, .string ⟨#[c]⟩] W fun e w' => e = .returned (.int .i64 (at_ s c)) ∧ w' = W) := Lib.hid (fun W => stringslite_Index_one s c W)
  by_cases h : 0 ≤ at_ s c
  · rw [if_pos h]
    obtain ⟨k, hk⟩ : ∃ k : Nat, at_ s c = (k : Int) := ⟨(at_ s c).toNat, by omega⟩
    obtain ⟨g, _, _⟩ := at_some hk
    have B := Lib.hid (show behindT s (k : Int) = s.extract (k + 1) s.size from rfl)
    rw [hk] at IW ⊢
    clear hk h
    have c2 : k ≤ s.size := by omega
    have c3 : wrap64 ((k : Int) + 1) = ((k + 1 : Nat) : Int) := by unfold wrap64; omega
    have c4 : k + 1 ≤ s.size := by omega
    go_enter Tryz.func128, Tryz.ntmps128
    go_wp2_with (go_at_call 143; refine (IW.out _).mono ?_; clear IW; rintro e w' ⟨rfl, rfl⟩)
    go_region
    all_goals
      go_wp2
      go_ret3
      exact ⟨by rw [B.out]; rfl, 1, rfl⟩
  · rw [if_neg h]
    have d : decide (0 ≤ at_ s c) = false := decide_eq_false h
    generalize at_ s c = i at *
    go_enter Tryz.func128, Tryz.ntmps128
    go_wp2_with (go_at_call 143; refine (IW.out _).mono ?_; clear IW; rintro e w' ⟨rfl, rfl⟩)
    go_ret3
    exact ⟨rfl, 0, rfl⟩
theorem cut1P (s : ByteArray) (c : UInt8) (a b : ByteArray) (f : Bool) (h : ∀ W, Calls Tryz.prog 128 #[.string s, .string ⟨#[c]⟩] W (Ret3Dr W a b f)) (w : World) : Calls Tryz.prog 110 #[.string s, .string ⟨#[c]⟩] w (Ret3Dr w a b f) := by
  have CL := Lib.hid h
  go_enter Tryz.func110, Tryz.ntmps110
  go_wp2_with (go_at_call 128; refine (CL.out _).mono ?_; clear CL; rintro e w' ⟨rfl, n, rfl⟩)
  go_ret3
  exact ⟨rfl, n, rfl⟩
theorem cut_yes {s : ByteArray} {c : UInt8} (hs : s.size ≤ 1000000) (h : 0 ≤ at_ s c) (w : World) : Calls Tryz.prog 110 #[.string s, .string ⟨#[c]⟩] w (Ret3Dr w (s.extract 0 (at_ s c).toNat) (behindT s (at_ s c)) true) :=
  cut1P s c _ _ _ (fun W => by have := cut1L s c hs W; rwa [if_pos h] at this) w
theorem cut_no {s : ByteArray} {c : UInt8} (hs : s.size ≤ 1000000) (h : ¬ 0 ≤ at_ s c) (w : World) : Calls Tryz.prog 110 #[.string s, .string ⟨#[c]⟩] w (Ret3Dr w s ⟨#[]⟩ false) :=
  cut1P s c _ _ _ (fun W => by have := cut1L s c hs W; rwa [if_neg h] at this) w
def RetDr (w : World) (v : Value) (e : Ending) (w' : World) : Prop := e = .returned v ∧ ∃ n, w' = w.drewN n
section
theorem fm_0 (s : ByteArray) (MD : Hid (∀ W, Calls Tryz.prog 80 #[.string s, .int .i64 20, .string ⟨#[43, 45, 37, 47]⟩] W (SameV W (.bool false)))) (w : World) : Calls Tryz.prog 86 #[.string s] w (RetDr w (.bool false)) := by
  go_enter Tryz.func86, Tryz.ntmps86
  go_wp2_with (go_at_call 80; refine (MD.out _).mono ?_; clear MD; rintro e w' ⟨rfl, rfl⟩)
  go_wp2
  go_ret
  exact ⟨by rfl, 0, rfl⟩
theorem fm_1 (s a b : ByteArray) (MD : Hid (∀ W, Calls Tryz.prog 80 #[.string s, .int .i64 20, .string ⟨#[43, 45, 37, 47]⟩] W (SameV W (.bool true)))) (CA : Hid (∀ W, Calls Tryz.prog 110 #[.string s, .string ⟨#[37]⟩] W (Ret3Dr W a b true))) (N1 : Hid (∀ W, Calls Tryz.prog 111 #[.string s, .string ⟨#[47]⟩] W (SameV W (.bool true)))) (w : World) : Calls Tryz.prog 86 #[.string s] w (RetDr w (.bool false)) := by
  go_enter Tryz.func86, Tryz.ntmps86
  go_wp2_with (go_at_call 80; refine (MD.out _).mono ?_; clear MD; rintro e w' ⟨rfl, rfl⟩)
  go_wp2_with (go_at_call 110; refine (CA.out _).mono ?_; clear CA; rintro e w' ⟨rfl, m1, rfl⟩)
  go_wp2_with (go_at_call 111; refine (N1.out _).mono ?_; clear N1; rintro e w' ⟨rfl, rfl⟩)
  go_wp2
  go_ret
  exact ⟨by rfl, m1, rfl⟩
theorem fm_2 (s a b : ByteArray) (MD : Hid (∀ W, Calls Tryz.prog 80 #[.string s, .int .i64 20, .string ⟨#[43, 45, 37, 47]⟩] W (SameV W (.bool true)))) (CA : Hid (∀ W, Calls Tryz.prog 110 #[.string s, .string ⟨#[37]⟩] W (Ret3Dr W a b true))) (N1 : Hid (∀ W, Calls Tryz.prog 111 #[.string s, .string ⟨#[47]⟩] W (SameV W (.bool false)))) (N2 : Hid (∀ W, Calls Tryz.prog 111 #[.string b, .string ⟨#[37]⟩] W (SameV W (.bool true)))) (w : World) : Calls Tryz.prog 86 #[.string s] w (RetDr w (.bool false)) := by
  go_enter Tryz.func86, Tryz.ntmps86
  go_wp2_with (go_at_call 80; refine (MD.out _).mono ?_; clear MD; rintro e w' ⟨rfl, rfl⟩)
  go_wp2_with (go_at_call 110; refine (CA.out _).mono ?_; clear CA; rintro e w' ⟨rfl, m1, rfl⟩)
  go_wp2_with (go_at_call 111; refine (N1.out _).mono ?_; clear N1; rintro e w' ⟨rfl, rfl⟩)
  go_wp2_with (go_at_call 111; refine (N2.out _).mono ?_; clear N2; rintro e w' ⟨rfl, rfl⟩)
  go_wp2
  go_ret
  exact ⟨by rfl, m1, rfl⟩
theorem fm_3 (s a b : ByteArray) (MD : Hid (∀ W, Calls Tryz.prog 80 #[.string s, .int .i64 20, .string ⟨#[43, 45, 37, 47]⟩] W (SameV W (.bool true)))) (CA : Hid (∀ W, Calls Tryz.prog 110 #[.string s, .string ⟨#[37]⟩] W (Ret3Dr W a b true))) (N1 : Hid (∀ W, Calls Tryz.prog 111 #[.string s, .string ⟨#[47]⟩] W (SameV W (.bool false)))) (N2 : Hid (∀ W, Calls Tryz.prog 111 #[.string b, .string ⟨#[37]⟩] W (SameV W (.bool false)))) (P1 : Hid (∀ W, Calls Tryz.prog 112 #[.string b, .string ⟨#[115]⟩] W (SameV W (.bool true)))) (w : World) : Calls Tryz.prog 86 #[.string s] w (RetDr w (.bool true)) := by
  go_enter Tryz.func86, Tryz.ntmps86
  go_wp2_with (go_at_call 80; refine (MD.out _).mono ?_; clear MD; rintro e w' ⟨rfl, rfl⟩)
  go_wp2_with (go_at_call 110; refine (CA.out _).mono ?_; clear CA; rintro e w' ⟨rfl, m1, rfl⟩)
  go_wp2_with (go_at_call 111; refine (N1.out _).mono ?_; clear N1; rintro e w' ⟨rfl, rfl⟩)
  go_wp2_with (go_at_call 111; refine (N2.out _).mono ?_; clear N2; rintro e w' ⟨rfl, rfl⟩)
  go_wp2_with (go_at_call 112; refine (P1.out _).mono ?_; clear P1; rintro e w' ⟨rfl, rfl⟩)
  go_wp2
  go_ret
  exact ⟨by rfl, m1, rfl⟩
theorem fm_4 (s a b : ByteArray) (f : Bool) (MD : Hid (∀ W, Calls Tryz.prog 80 #[.string s, .int .i64 20, .string ⟨#[43, 45, 37, 47]⟩] W (SameV W (.bool true)))) (CA : Hid (∀ W, Calls Tryz.prog 110 #[.string s, .string ⟨#[37]⟩] W (Ret3Dr W a b true))) (N1 : Hid (∀ W, Calls Tryz.prog 111 #[.string s, .string ⟨#[47]⟩] W (SameV W (.bool false)))) (N2 : Hid (∀ W, Calls Tryz.prog 111 #[.string b, .string ⟨#[37]⟩] W (SameV W (.bool false)))) (P1 : Hid (∀ W, Calls Tryz.prog 112 #[.string b, .string ⟨#[115]⟩] W (SameV W (.bool false)))) (P2 : Hid (∀ W, Calls Tryz.prog 112 #[.string b, .string ⟨#[122]⟩] W (SameV W (.bool f)))) (w : World) : Calls Tryz.prog 86 #[.string s] w (RetDr w (.bool f)) := by
  go_enter Tryz.func86, Tryz.ntmps86
  go_wp2_with (go_at_call 80; refine (MD.out _).mono ?_; clear MD; rintro e w' ⟨rfl, rfl⟩)
  go_wp2_with (go_at_call 110; refine (CA.out _).mono ?_; clear CA; rintro e w' ⟨rfl, m1, rfl⟩)
  go_wp2_with (go_at_call 111; refine (N1.out _).mono ?_; clear N1; rintro e w' ⟨rfl, rfl⟩)
  go_wp2_with (go_at_call 111; refine (N2.out _).mono ?_; clear N2; rintro e w' ⟨rfl, rfl⟩)
  go_wp2_with (go_at_call 112; refine (P1.out _).mono ?_; clear P1; rintro e w' ⟨rfl, rfl⟩)
  go_wp2_with (go_at_call 112; refine (P2.out _).mono ?_; clear P2; rintro e w' ⟨rfl, rfl⟩)
  go_wp2
  go_ret
  exact ⟨by rfl, m1, rfl⟩
theorem fm_5 (s a b : ByteArray) (MD : Hid (∀ W, Calls Tryz.prog 80 #[.string s, .int .i64 20, .string ⟨#[43, 45, 37, 47]⟩] W (SameV W (.bool true)))) (CA : Hid (∀ W, Calls Tryz.prog 110 #[.string s, .string ⟨#[37]⟩] W (Ret3Dr W s ⟨#[]⟩ false))) (CB : Hid (∀ W, Calls Tryz.prog 110 #[.string s, .string ⟨#[47]⟩] W (Ret3Dr W a b false))) (w : World) : Calls Tryz.prog 86 #[.string s] w (RetDr w (.bool true)) := by
  go_enter Tryz.func86, Tryz.ntmps86
  go_wp2_with (go_at_call 80; refine (MD.out _).mono ?_; clear MD; rintro e w' ⟨rfl, rfl⟩)
  go_wp2_with (go_at_call 110; refine (CA.out _).mono ?_; clear CA; rintro e w' ⟨rfl, m1, rfl⟩)
  go_wp2_with (go_at_call 110; refine (CB.out _).mono ?_; clear CB; rintro e w' ⟨rfl, m2, rfl⟩)
  go_wp2
  go_ret
  exact ⟨by rfl, m1 + m2, rfl⟩
theorem fm_6 (s b : ByteArray) (MD : Hid (∀ W, Calls Tryz.prog 80 #[.string s, .int .i64 20, .string ⟨#[43, 45, 37, 47]⟩] W (SameV W (.bool true)))) (CA : Hid (∀ W, Calls Tryz.prog 110 #[.string s, .string ⟨#[37]⟩] W (Ret3Dr W s ⟨#[]⟩ false))) (CB : Hid (∀ W, Calls Tryz.prog 110 #[.string s, .string ⟨#[47]⟩] W (Ret3Dr W ⟨#[]⟩ b true))) (w : World) : Calls Tryz.prog 86 #[.string s] w (RetDr w (.bool false)) := by
  go_enter Tryz.func86, Tryz.ntmps86
  go_wp2_with (go_at_call 80; refine (MD.out _).mono ?_; clear MD; rintro e w' ⟨rfl, rfl⟩)
  go_wp2_with (go_at_call 110; refine (CA.out _).mono ?_; clear CA; rintro e w' ⟨rfl, m1, rfl⟩)
  go_wp2_with (go_at_call 110; refine (CB.out _).mono ?_; clear CB; rintro e w' ⟨rfl, m2, rfl⟩)
  go_wp2
  go_ret
  exact ⟨by rfl, m1 + m2, rfl⟩
theorem fm_7 (s a : ByteArray) (MD : Hid (∀ W, Calls Tryz.prog 80 #[.string s, .int .i64 20, .string ⟨#[43, 45, 37, 47]⟩] W (SameV W (.bool true)))) (CA : Hid (∀ W, Calls Tryz.prog 110 #[.string s, .string ⟨#[37]⟩] W (Ret3Dr W s ⟨#[]⟩ false))) (CB : Hid (∀ W, Calls Tryz.prog 110 #[.string s, .string ⟨#[47]⟩] W (Ret3Dr W a ⟨#[]⟩ true))) (fa : (a.toList == []) = false ∧ a.toList.isEmpty = false ∧ ¬ a.toList = []) (w : World) : Calls Tryz.prog 86 #[.string s] w (RetDr w (.bool false)) := by
  obtain ⟨_, _, _⟩ := fa
  go_enter Tryz.func86, Tryz.ntmps86
  go_wp2_with (go_at_call 80; refine (MD.out _).mono ?_; clear MD; rintro e w' ⟨rfl, rfl⟩)
  go_wp2_with (go_at_call 110; refine (CA.out _).mono ?_; clear CA; rintro e w' ⟨rfl, m1, rfl⟩)
  go_wp2_with (go_at_call 110; refine (CB.out _).mono ?_; clear CB; rintro e w' ⟨rfl, m2, rfl⟩)
  go_wp2
  go_ret
  exact ⟨by rfl, m1 + m2, rfl⟩
theorem fm_8 (s a b : ByteArray) (f : Bool) (MD : Hid (∀ W, Calls Tryz.prog 80 #[.string s, .int .i64 20, .string ⟨#[43, 45, 37, 47]⟩] W (SameV W (.bool true)))) (CA : Hid (∀ W, Calls Tryz.prog 110 #[.string s, .string ⟨#[37]⟩] W (Ret3Dr W s ⟨#[]⟩ false))) (CB : Hid (∀ W, Calls Tryz.prog 110 #[.string s, .string ⟨#[47]⟩] W (Ret3Dr W a b true))) (fa : (a.toList == []) = false ∧ a.toList.isEmpty = false ∧ ¬ a.toList = []) (fb : (b.toList == []) = false ∧ b.toList.isEmpty = false ∧ ¬ b.toList = []) (N1 : Hid (∀ W, Calls Tryz.prog 111 #[.string b, .string ⟨#[47]⟩] W (SameV W (.bool f)))) (w : World) : Calls Tryz.prog 86 #[.string s] w (RetDr w (.bool (!f))) := by
  obtain ⟨_, _, _⟩ := fa
  obtain ⟨_, _, _⟩ := fb
  go_enter Tryz.func86, Tryz.ntmps86
  go_wp2_with (go_at_call 80; refine (MD.out _).mono ?_; clear MD; rintro e w' ⟨rfl, rfl⟩)
  go_wp2_with (go_at_call 110; refine (CA.out _).mono ?_; clear CA; rintro e w' ⟨rfl, m1, rfl⟩)
  go_wp2_with (go_at_call 110; refine (CB.out _).mono ?_; clear CB; rintro e w' ⟨rfl, m2, rfl⟩)
  go_wp2_with (go_at_call 111; refine (N1.out _).mono ?_; clear N1; rintro e w' ⟨rfl, rfl⟩)
  go_wp2
  go_ret
  exact ⟨by rfl, m1 + m2, rfl⟩
end
theorem formatP (s : ByteArray) (hs : s.size ≤ maxLen) (w : World) : Calls Tryz.prog 86 #[.string s] w (RetDr w (.bool (formatB s))) := by
  rw [fmt_code]
  unfold fmtC
  have MD := fun W => madeP s ⟨#[43, 45, 37, 47]⟩ 20 [43, 45, 37, 47] rfl hs W
  cases e0 : madeB s 20 [43, 45, 37, 47] with
  | false =>
    rw [e0] at MD
    exact fm_0 s (Lib.hid MD) w
  | true =>
    rw [e0] at MD
    have h20 : s.size ≤ 20 := by
      unfold madeB at e0
      rw [Bool.and_eq_true, Bool.and_eq_true, decide_eq_true_eq, decide_eq_true_eq] at e0
      omega
    have hb : ∀ i, (behindT s i).size ≤ maxLen := fun i => by unfold behindT; simp only [ByteArray.size_extract]; unfold maxLen; omega
    rw [Bool.true_and]
    by_cases h37 : 0 ≤ at_ s 37
    · rw [if_pos h37]
      have CA := fun W => cut_yes (s := s) (c := 37) (by omega) h37 W
      have N1 := fun W => containsP s 47 W
      have N2 := fun W => containsP (behindT s (at_ s 37)) 37 W
      have P1 := fun W => prefixP (behindT s (at_ s 37)) 115 (hb _) W
      have P2 := fun W => prefixP (behindT s (at_ s 37)) 122 (hb _) W
      by_cases h47 : 0 ≤ at_ s 47
      · rw [decide_eq_true h47] at N1
        rw [decide_eq_false (p := at_ s 47 < 0) (by omega), Bool.false_and, Bool.false_and]
        exact fm_1 s _ _ (Lib.hid MD) (Lib.hid CA) (Lib.hid N1) w
      rw [decide_eq_false h47] at N1
      rw [decide_eq_true (p := at_ s 47 < 0) (by omega), Bool.true_and]
      by_cases hp : 0 ≤ at_ (behindT s (at_ s 37)) 37
      · rw [decide_eq_true hp] at N2
        rw [decide_eq_false (p := at_ (behindT s (at_ s 37)) 37 < 0) (by omega), Bool.false_and]
        exact fm_2 s _ _ (Lib.hid MD) (Lib.hid CA) (Lib.hid N1) (Lib.hid N2) w
      rw [decide_eq_false hp] at N2
      rw [decide_eq_true (p := at_ (behindT s (at_ s 37)) 37 < 0) (by omega), Bool.true_and]
      cases e1 : headB (behindT s (at_ s 37)) 115 with
      | true =>
        rw [show (115 : UInt8).toNat = 115 from rfl, e1] at P1
        exact fm_3 s _ _ (Lib.hid MD) (Lib.hid CA) (Lib.hid N1) (Lib.hid N2) (Lib.hid P1) w
      | false =>
        rw [show (115 : UInt8).toNat = 115 from rfl, e1] at P1
        exact fm_4 s _ _ _ (Lib.hid MD) (Lib.hid CA) (Lib.hid N1) (Lib.hid N2) (Lib.hid P1) (Lib.hid P2) w
    · rw [if_neg h37]
      have CA := fun W => cut_no (s := s) (c := 37) (by omega) h37 W
      by_cases h47 : 0 ≤ at_ s 47
      · rw [if_pos h47]
        have CB := fun W => cut_yes (s := s) (c := 47) (by omega) h47 W
        have N1 := fun W => containsP (behindT s (at_ s 47)) 47 W
        by_cases z : at_ s 47 = 0
        · rw [z] at CB ⊢
          rw [show s.extract 0 (0 : Int).toNat = ⟨#[]⟩ from empty_is (by simp)] at CB
          exact fm_6 s _ (Lib.hid MD) (Lib.hid CA) (Lib.hid CB) w
        obtain ⟨g, _, _⟩ := at_some (s := s) (c := 47) (o := (at_ s 47).toNat) (by omega)
        have fa := full_text (t := s.extract 0 (at_ s 47).toNat) (by simp only [ByteArray.size_extract]; omega)
        rw [decide_eq_true (p := ¬ at_ s 47 = 0) z, Bool.true_and]
        by_cases y : (behindT s (at_ s 47)).size = 0
        · rw [decide_eq_false (p := ¬ (behindT s (at_ s 47)).size = 0) (fun c => c y), Bool.false_and]
          rw [empty_is y] at CB
          exact fm_7 s _ (Lib.hid MD) (Lib.hid CA) (Lib.hid CB) fa w
        · rw [decide_eq_true (p := ¬ (behindT s (at_ s 47)).size = 0) y, Bool.true_and]
          have ee : decide (at_ (behindT s (at_ s 47)) 47 < 0) = !decide (0 ≤ at_ (behindT s (at_ s 47)) 47) := by
            rw [← decide_not, Bool.eq_iff_iff]
            simp only [decide_eq_true_eq]
            omega
          rw [ee]
          exact fm_8 s _ _ _ (Lib.hid MD) (Lib.hid CA) (Lib.hid CB) fa (full_text y) (Lib.hid N1) w
      · rw [if_neg h47]
        exact fm_5 s _ _ (Lib.hid MD) (Lib.hid CA) (Lib.hid fun W => cut_no (s := s) (c := 47) (by omega) h47 W) w
end Go.Proofs.YtmhpnmlgfdomkaaGreatDoor
namespace Go.Proofs.YtmhpnmlgfdomkaaGreatDoor
open Go.RowKit
end Go.Proofs.YtmhpnmlgfdomkaaGreatDoor
namespace Go.Proofs.YtmhpnmlgfdomkaaGreatDoor
open Go.Shelf Go.RowKit
end Go.Proofs.YtmhpnmlgfdomkaaGreatDoor
namespace Go.Proofs.YtmhpnmlgfdomkaaGreatDoor
open Go.RowKit
def yrB (n : Int) : Bool := decide (1 ≤ n ∧ n ≤ 9999)
def svB (n : Int) : Bool := decide (-43200 ≤ n ∧ n ≤ 43200)
theorem rightYearP (n : Int) (w : World) : Calls Tryz.prog 50 #[.int .i64 n] w (SameV w (.bool (yrB n))) := by
  by_cases h1 : 1 ≤ n
  · have d1 : decide (1 ≤ n) = true := decide_eq_true h1
    by_cases h2 : n ≤ 9999
    · have d2 : decide (n ≤ 9999) = true := decide_eq_true h2
      have E := Lib.hid (show yrB n = true from decide_eq_true ⟨h1, h2⟩)
      go_enter Tryz.func50, Tryz.ntmps50
      go_wp2
      go_ret
      exact ⟨by rw [E.out]; rfl, rfl⟩
    · have d2 : decide (n ≤ 9999) = false := decide_eq_false h2
      have E := Lib.hid (show yrB n = false from decide_eq_false fun c => h2 c.2)
      go_enter Tryz.func50, Tryz.ntmps50
      go_wp2
      go_ret
      exact ⟨by rw [E.out]; rfl, rfl⟩
  · have d1 : decide (1 ≤ n) = false := decide_eq_false h1
    have E := Lib.hid (show yrB n = false from decide_eq_false fun c => h1 c.1)
    go_enter Tryz.func50, Tryz.ntmps50
    go_wp2
    go_ret
    exact ⟨by rw [E.out]; rfl, rfl⟩
theorem rightSaveP (n : Int) (w : World) : Calls Tryz.prog 52 #[.int .i64 n] w (SameV w (.bool (svB n))) := by
  by_cases h1 : -43200 ≤ n
  · have d1 : decide (-43200 ≤ n) = true := decide_eq_true h1
    by_cases h2 : n ≤ 43200
    · have d2 : decide (n ≤ 43200) = true := decide_eq_true h2
      have E := Lib.hid (show svB n = true from decide_eq_true ⟨h1, h2⟩)
      go_enter Tryz.func52, Tryz.ntmps52
      go_wp2
      go_ret
      exact ⟨by rw [E.out]; rfl, rfl⟩
    · have d2 : decide (n ≤ 43200) = false := decide_eq_false h2
      have E := Lib.hid (show svB n = false from decide_eq_false fun c => h2 c.2)
      go_enter Tryz.func52, Tryz.ntmps52
      go_wp2
      go_ret
      exact ⟨by rw [E.out]; rfl, rfl⟩
  · have d1 : decide (-43200 ≤ n) = false := decide_eq_false h1
    have E := Lib.hid (show svB n = false from decide_eq_false fun c => h1 c.1)
    go_enter Tryz.func52, Tryz.ntmps52
    go_wp2
    go_ret
    exact ⟨by rw [E.out]; rfl, rfl⟩
theorem letters_made (s : ByteArray) : madeB s 8 [43, 45] = lettersB s := by
  unfold madeB lettersB
  rw [Bool.eq_iff_iff]
  simp only [Bool.and_eq_true, decide_eq_true_eq]
  constructor
  · rintro ⟨⟨a, b⟩, c⟩; exact ⟨c, by omega⟩
  · rintro ⟨c, a⟩; exact ⟨⟨by omega, by omega⟩, c⟩
theorem no_dash {s : ByteArray} (h : ¬ s = ⟨#[45]⟩) : (s.toList == [45]) = false := by
  rw [beq_eq_false_iff_ne]
  intro c
  refine h ?_
  rw [ByteArray.toList_eq] at c
  obtain ⟨a⟩ := s
  have : a = #[45] := by
    apply Array.ext'
    exact c
  rw [this]
def rlB (s : ByteArray) : Bool := decide (¬ s = ⟨#[45]⟩) && lettersB s
theorem rightLetterP (s : ByteArray) (hs : s.size ≤ maxLen) (w : World) : Calls Tryz.prog 53 #[.string s] w (SameV w (.bool (rlB s))) := by
  by_cases h : s = ⟨#[45]⟩
  · subst h
    have E := Lib.hid (show rlB ⟨#[45]⟩ = false from rfl)
    go_enter Tryz.func53, Tryz.ntmps53
    go_wp2
    go_ret
    exact ⟨by rw [E.out]; rfl, rfl⟩
  · have E := Lib.hid (show rlB s = lettersB s by unfold rlB; rw [decide_eq_true h, Bool.true_and])
    have ng := no_dash h
    have nn : ¬ s.toList = [45] := beq_eq_false_iff_ne.1 ng
    have MD := Lib.hid (fun W => (letters_made s ▸ madeP s ⟨#[43, 45]⟩ 8 [43, 45] rfl hs W : Calls Tryz.prog 80 #[.string s, .int .i64 8, .string ⟨#[43, 45]⟩] W (SameV W (.bool (lettersB s)))))
    clear h hs
    generalize lettersB s = b at *
    go_enter Tryz.func53, Tryz.ntmps53
    go_wp2_with (go_at_call 80; refine (MD.out _).mono ?_; clear MD; rintro e w' ⟨rfl, rfl⟩)
    go_ret
    exact ⟨by rw [E.out]; simp, rfl⟩
def e6 (b : Bool) : Int := if b = true then 0 else 6
def t6 (b : Bool) (t : ByteArray) : ByteArray := if b = true then t else ⟨#[]⟩
def Flt.same (f g : Flt) : Prop := f = g ∨ (f.1 = 0 ∧ g.1 = 0)
end Go.Proofs.YtmhpnmlgfdomkaaGreatDoor
