/- Package fields: a field of a line, walked. -/
import Derived.Test.YtnojlbeiknkooaaFfork
import Derived.Laws.DeepStrings4
namespace Go.Proofs.Ytnojlbeiknkooaa
open Go.RowKit
/-- What a call that answers a value and leaves memory alone leaves. -/
def RetQ (w : World) (v : Value) (e : Ending) (w' : World) : Prop := e = .returned v ∧ w = w'
theorem allOf_eq {K : Int → Bool} {s : ByteArray} : (endOf K s 0 = s.size) ∨ ((endOf K s 0 == s.size) = false) := by
  by_cases h : endOf K s 0 = s.size
  · exact .inl h
  · exact .inr (by rw [beq_eq_false_iff_ne]; exact h)
theorem nat_eqb {a b : Nat} (h : a = b) : (((a : Int) == (b : Int)) = true) := by subst h; simp
theorem nat_neb {a b : Nat} (h : ¬ a = b) : (((a : Int) == (b : Int)) = false) := by rw [beq_eq_false_iff_ne]; omega
theorem nat_eqn {a b : Nat} (h : a = b) : (((a : Int) != (b : Int)) = false) := by subst h; simp
theorem nat_nen {a b : Nat} (h : ¬ a = b) : (((a : Int) != (b : Int)) = true) := by rw [bne_iff_ne]; omega
set_option maxRecDepth 100000 in
theorem startP (s : ByteArray) (hs : s.size ≤ 1000000) (k : Nat) (hk : k ≤ s.size) (w : World) : Calls Try.prog 20 #[.string s, .int .i64 k] w (RetQ w (.int .i64 (startOf s k))) := by
  have EW := Lib.hid (end_blank s hs k (by omega))
  obtain ⟨e1, e2⟩ := endOf_le (K := blankB) hk
  have SO := Lib.hid (startOf.eq_1 s k)
  generalize endOf blankB s k = e at *
  by_cases h : e < s.size
  · have SO := SO.out
    rw [dif_pos h] at SO
    obtain ⟨c1, c2⟩ := byte_is h 35 35 rfl
    by_cases c : s[e] = 35
    · have g := c1 c
      rw [decide_eq_true c, if_pos rfl] at SO
      replace SO := Lib.hid SO
      clear c c1 c2
      go_enter Try.func20, Try.ntmps20
      go_wp2_with (go_at_call 35; refine (EW.out _).mono ?_; rintro e w' ⟨rfl, rfl⟩)
      go_ret
      exact ⟨by rw [SO.out]; rfl, rfl⟩
    · have g := c2 c
      rw [decide_eq_false c, if_neg (by decide)] at SO
      replace SO := Lib.hid SO
      clear c c1 c2
      go_enter Try.func20, Try.ntmps20
      go_wp2_with (go_at_call 35; refine (EW.out _).mono ?_; rintro e w' ⟨rfl, rfl⟩)
      go_ret
      exact ⟨by rw [SO.out]; rfl, rfl⟩
  · have SO := SO.out
    rw [dif_neg h, if_neg (by decide)] at SO
    replace SO := Lib.hid SO
    go_enter Try.func20, Try.ntmps20
    go_wp2_with (go_at_call 35; refine (EW.out _).mono ?_; rintro e w' ⟨rfl, rfl⟩)
    go_ret
    exact ⟨by rw [SO.out]; rfl, rfl⟩
set_option maxRecDepth 100000 in
theorem partedP (s : ByteArray) (_hs : s.size ≤ 1000000) (k : Nat) (hk : k ≤ s.size) (w : World) : Calls Try.prog 39 #[.string s, .int .i64 k] w (RetQ w (.bool (!blocked s k))) := by
  by_cases h : k < s.size
  · have g0 := nat_neb (show ¬ k = s.size by omega)
    obtain ⟨c1, c2⟩ := byte_is h 35 35 rfl
    by_cases c : s[k] = 35
    · have g := c1 c
      rw [show blocked s k = false from by unfold blocked; rw [dif_pos h, decide_eq_false (by simp [c]), Bool.and_false]]
      clear c c1 c2
      go_enter Try.func39, Try.ntmps39
      go_wp2
      go_ret
      exact ⟨rfl, rfl⟩
    · have g := c2 c
      have BW := Lib.hid (fblank s[k].toNat)
      rw [show (!blocked s k) = blankB s[k].toNat from by unfold blocked; rw [dif_pos h, decide_eq_true c, Bool.and_true, Bool.not_not]]
      clear c c1 c2
      go_enter Try.func39, Try.ntmps39
      go_wp2_with (go_at_call 36; refine (BW.out _).mono ?_; rintro e w' ⟨rfl, rfl⟩)
      go_ret
      exact ⟨rfl, rfl⟩
  · have e : k = s.size := by omega
    rw [show blocked s k = false from dif_neg h]
    subst e
    go_enter Try.func39, Try.ntmps39
    go_wp2
    go_ret
    exact ⟨rfl, rfl⟩
set_option maxRecDepth 100000 in
theorem quotedP (s : ByteArray) (hs : s.size ≤ 1000000) (k : Nat) (hk : k < s.size) (w : World) : Calls Try.prog 37 #[.string s, .int .i64 k] w (RetQ w (.tuple #[.string (quoRes s k).1, .int .i64 (quoRes s k).2.1, .int .i64 (quoRes s k).2.2])) := by
  have EN := Lib.hid (end_noq s hs (k + 1) (by omega))
  have EO := Lib.hid (end_ok s hs (k + 1) (by omega))
  obtain ⟨e1, e2⟩ := endOf_le (K := noQ) (s := s) (k := k + 1) (by omega)
  obtain ⟨f1, f2⟩ := endOf_le (K := okB) (s := s) (k := k + 1) (by omega)
  have Q := quoRes.eq_1 s k
  generalize endOf noQ s (k + 1) = e at *
  generalize endOf okB s (k + 1) = f at *
  by_cases h : e = s.size
  · rw [if_pos h] at Q
    replace Q := Lib.hid Q
    have g := nat_eqb h
    clear h
    go_enter Try.func37, Try.ntmps37
    go_wp2_with (go_at_call 35; first | (refine (EN.out _).mono ?_; clear EN; rintro e w' ⟨rfl, rfl⟩) | (refine (EO.out _).mono ?_; rintro e w' ⟨rfl, rfl⟩))
    go_ret3
    exact ⟨by rw [Q.out]; rfl, rfl⟩
  · rw [if_neg h] at Q
    have g := nat_neb h
    by_cases i : f = e
    · rw [if_pos i] at Q
      replace Q := Lib.hid Q
      have j := nat_eqn i
      clear h i
      go_enter Try.func37, Try.ntmps37
      go_wp2_with (go_at_call 35; first | (refine (EN.out _).mono ?_; clear EN; rintro e w' ⟨rfl, rfl⟩) | (refine (EO.out _).mono ?_; rintro e w' ⟨rfl, rfl⟩))
      go_ret3
      exact ⟨by rw [Q.out]; rfl, rfl⟩
    · rw [if_neg i] at Q
      replace Q := Lib.hid Q
      have j := nat_nen i
      clear h i
      go_enter Try.func37, Try.ntmps37
      go_wp2_with (go_at_call 35; first | (refine (EN.out _).mono ?_; clear EN; rintro e w' ⟨rfl, rfl⟩) | (refine (EO.out _).mono ?_; rintro e w' ⟨rfl, rfl⟩))
      go_ret3
      exact ⟨by rw [Q.out]; rfl, rfl⟩
theorem head_in {s : ByteArray} {k : Nat} (hk : k < s.size) : (headRes s k).2.1 ≤ s.size ∧ -1 ≤ (headRes s k).2.2 := by
  unfold headRes
  split
  · unfold quoRes
    have := endOf_le (K := noQ) (s := s) (k := k + 1) (by omega)
    have := endOf_le (K := okB) (s := s) (k := k + 1) (by omega)
    split
    · exact ⟨Nat.zero_le _, by simp <;> omega⟩
    · split
      · exact ⟨by simp <;> omega, by simp⟩
      · exact ⟨Nat.zero_le _, by simp <;> omega⟩
  · have := endOf_le (K := bareB) (s := s) (k := k) (by omega)
    exact ⟨this.2, by simp⟩
set_option maxRecDepth 100000 in
set_option maxHeartbeats 4000000 in
theorem fieldP (s : ByteArray) (hs : s.size ≤ 1000000) (k : Nat) (hk : k < s.size) (w : World) : Calls Try.prog 21 #[.string s, .int .i64 k] w (RetQ w (.tuple #[.string (fieldRes s k).1, .int .i64 (fieldRes s k).2.1, .int .i64 (fieldRes s k).2.2])) := by
  obtain ⟨b1, b2⟩ := head_in hk
  have PW := Lib.hid (partedP s hs (headRes s k).2.1 b1)
  have F := fieldRes.eq_1 s k
  obtain ⟨c1, c2⟩ := byte_is hk 34 34 rfl
  by_cases q : s[k] = 34
  · have QW := Lib.hid (quotedP s hs k hk)
    have hH : headRes s k = quoRes s k := if_pos ⟨hk, q⟩
    rw [hH] at b1 b2 PW F
    have g := c1 q
    clear c1 c2 q hH
    generalize quoRes s k = r at *
    obtain ⟨t, b, x⟩ := r
    simp only at b1 b2 PW F QW
    by_cases h : x = -1
    · subst h
      cases bl : blocked s b with
      | true =>
        rw [if_pos ⟨rfl, bl⟩] at F
        rw [bl] at PW
        replace F := Lib.hid F
        clear bl
        go_enter Try.func21, Try.ntmps21
        go_wp2_with first
          | (go_at_call 37; refine (QW.out _).mono ?_; rintro e w' ⟨rfl, rfl⟩)
          | (go_at_call 39; refine (PW.out _).mono ?_; rintro e w' ⟨rfl, rfl⟩)
        go_ret3
        exact ⟨by rw [F.out]; rfl, rfl⟩
      | false =>
        rw [if_neg (by rw [bl]; simp)] at F
        rw [bl] at PW
        replace F := Lib.hid F
        clear bl
        go_enter Try.func21, Try.ntmps21
        go_wp2_with first
          | (go_at_call 37; refine (QW.out _).mono ?_; rintro e w' ⟨rfl, rfl⟩)
          | (go_at_call 39; refine (PW.out _).mono ?_; rintro e w' ⟨rfl, rfl⟩)
        go_ret3
        exact ⟨by rw [F.out]; rfl, rfl⟩
    · rw [if_neg (fun c => h c.1)] at F
      replace F := Lib.hid F
      have g1 : (x == -1) = false := by rw [beq_eq_false_iff_ne]; exact h
      clear h
      go_enter Try.func21, Try.ntmps21
      go_wp2_with first
        | (go_at_call 37; refine (QW.out _).mono ?_; rintro e w' ⟨rfl, rfl⟩)
        | (go_at_call 39; refine (PW.out _).mono ?_; rintro e w' ⟨rfl, rfl⟩)
      go_ret3
      exact ⟨by rw [F.out]; rfl, rfl⟩
  · have EB := Lib.hid (end_bare s hs k (by omega))
    have hH : headRes s k = (s.extract k (endOf bareB s k), endOf bareB s k, -1) := if_neg fun ⟨_, c⟩ => q c
    obtain ⟨e1, e2⟩ := endOf_le (K := bareB) (s := s) (k := k) (by omega)
    rw [hH] at b1 b2 PW F
    have g := c2 q
    clear c1 c2 q hH
    generalize endOf bareB s k = b at *
    simp only at b1 b2 PW F
    cases bl : blocked s b with
    | true =>
      rw [if_pos ⟨trivial, bl⟩] at F
      rw [bl] at PW
      replace F := Lib.hid F
      clear bl
      go_enter Try.func21, Try.ntmps21
      go_wp2_with first
        | (go_at_call 35; refine (EB.out _).mono ?_; rintro e w' ⟨rfl, rfl⟩)
        | (go_at_call 39; refine (PW.out _).mono ?_; rintro e w' ⟨rfl, rfl⟩)
      go_ret3
      exact ⟨by rw [F.out]; rfl, rfl⟩
    | false =>
      rw [if_neg (by rw [bl]; simp)] at F
      rw [bl] at PW
      replace F := Lib.hid F
      clear bl
      go_enter Try.func21, Try.ntmps21
      go_wp2_with first
        | (go_at_call 35; refine (EB.out _).mono ?_; rintro e w' ⟨rfl, rfl⟩)
        | (go_at_call 39; refine (PW.out _).mono ?_; rintro e w' ⟨rfl, rfl⟩)
      go_ret3
      exact ⟨by rw [F.out]; rfl, rfl⟩
set_option maxRecDepth 100000 in
theorem all_ok (s : ByteArray) (hs : s.size ≤ 1000000) (w : World) : Calls Try.prog 25 #[.string s, .func (.func 26) #[] #[]] w (RetQ w (.bool ((endOf okB s 0 : Int) == (s.size : Int)))) := by
  have EW := Lib.hid (end_ok s hs 0 (by omega))
  generalize endOf okB s 0 = e at *
  go_enter Try.func25, Try.ntmps25
  go_wp2_with (go_at_call 35; refine (EW.out _).mono ?_; rintro e w' ⟨rfl, rfl⟩)
  go_ret
  exact ⟨rfl, rfl⟩
set_option maxRecDepth 100000 in
theorem all_bare (s : ByteArray) (hs : s.size ≤ 1000000) (w : World) : Calls Try.prog 25 #[.string s, .func (.func 38) #[] #[]] w (RetQ w (.bool ((endOf bareB s 0 : Int) == (s.size : Int)))) := by
  have EW := Lib.hid (end_bare s hs 0 (by omega))
  generalize endOf bareB s 0 = e at *
  go_enter Try.func25, Try.ntmps25
  go_wp2_with (go_at_call 35; refine (EW.out _).mono ?_; rintro e w' ⟨rfl, rfl⟩)
  go_ret
  exact ⟨rfl, rfl⟩
/-- a text as a field of a line -/
def writtenT (t : ByteArray) : ByteArray := if plainT t = true then t else (⟨#[34]⟩ ++ t) ++ ⟨#[34]⟩
theorem end_zero {K : Int → Bool} {s : ByteArray} : endOf K s 0 = s.size ↔ ∀ (j : Nat) (h : j < s.size), K s[j].toNat = true := by
  constructor
  · intro e j h
    exact endOf_all s.size 0 (by omega) j h (Nat.zero_le _) (by omega)
  · intro h
    exact endOf_eq (Nat.zero_le _) (Nat.le_refl _) (fun j g _ _ => h j g) (fun g => absurd g (by omega))
theorem bare_all {t : ByteArray} : ∀ k, k ≤ t.size → (barePre t k = true ↔ 0 < t.size ∧ ∀ (j : Nat) (h : j < t.size), j < k → bareB t[j].toNat = true) := by
  intro k
  induction k with
  | zero => intro _; show decide (0 < t.size) = true ↔ _; rw [decide_eq_true_iff]; exact ⟨fun h => ⟨h, fun _ _ c => absurd c (by omega)⟩, fun h => h.1⟩
  | succ k ih =>
    intro hk
    rw [bare_succ (by omega), Bool.and_eq_true, ih (by omega)]
    constructor
    · rintro ⟨⟨a, b⟩, c⟩
      refine ⟨a, fun j h g => ?_⟩
      by_cases e : j = k
      · subst e; exact c
      · exact b j h (by omega)
    · rintro ⟨a, b⟩
      exact ⟨⟨a, fun j h g => b j h (by omega)⟩, b k (by omega) (by omega)⟩
theorem plain_iff {t : ByteArray} : plainT t = true ↔ 0 < t.size ∧ endOf bareB t 0 = t.size := by
  unfold plainT
  rw [bare_all t.size (Nat.le_refl _), end_zero]
  exact ⟨fun h => ⟨h.1, fun j g => h.2 j g g⟩, fun h => ⟨h.1, fun j g _ => h.2 j g⟩⟩
theorem ok_iff {t : ByteArray} : okText t ↔ endOf okB t 0 = t.size := by
  rw [end_zero]
  exact ⟨fun h j g => h j g g, fun h j g _ => h j g⟩
theorem empty_is {t : ByteArray} (h : t.size = 0) : t = ⟨#[]⟩ := by
  apply ByteArray.ext
  exact Array.eq_empty_of_size_eq_zero h
theorem ne_toList {t : ByteArray} (h : ¬ t.size = 0) : ¬ t.toList = [] := by
  intro c
  apply h
  have : t.data.toList = [] := by rw [← c]; exact (ByteArray.toList_eq t).symm
  rw [show t.size = t.data.size from rfl, ← Array.length_toList, this]
  rfl
set_option maxRecDepth 100000 in
theorem writtenP (t : ByteArray) (hs : t.size ≤ 1000000) (w : World) : Calls Try.prog 29 #[.string t] w (RetQ w (.string (writtenT t))) := by
  by_cases h0 : t.size = 0
  · obtain rfl := empty_is h0
    clear h0
    go_enter Try.func29, Try.ntmps29
    go_wp2
    go_ret
    exact ⟨by rw [show writtenT ⟨#[]⟩ = ⟨#[34, 34]⟩ from by kernel_rfl]; rfl, rfl⟩
  · have ne2 : ¬ t.toList = [] := ne_toList h0
    have ne : t.toList.isEmpty = false := List.isEmpty_eq_false_iff.2 ne2
    have AW := Lib.hid (all_bare t hs)
    have W := writtenT.eq_1 t
    cases p : plainT t with
    | true =>
      rw [if_pos p] at W
      replace W := Lib.hid W
      rw [nat_eqb (plain_iff.1 p).2] at AW
      clear p
      go_enter Try.func29, Try.ntmps29
      go_wp2_with (go_at_call 25; refine (AW.out _).mono ?_; rintro e w' ⟨rfl, rfl⟩)
      go_ret
      exact ⟨by rw [W.out]; rfl, rfl⟩
    | false =>
      rw [if_neg (by rw [p]; decide)] at W
      replace W := Lib.hid W
      rw [nat_neb (fun c => by rw [plain_iff.2 ⟨by omega, c⟩] at p; cases p)] at AW
      clear p
      go_enter Try.func29, Try.ntmps29
      go_wp2_with (go_at_call 25; refine (AW.out _).mono ?_; rintro e w' ⟨rfl, rfl⟩)
      go_ret
      exact ⟨by rw [W.out]; rfl, rfl⟩
end Go.Proofs.Ytnojlbeiknkooaa
