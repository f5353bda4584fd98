/- Layer 10: what is wrong is told by what stands up to its line. No program here. -/
import Derived.Test.YtnkmlfbnfndfpaaGreatDoorZGj
namespace Go.Proofs.YtnkmlfbnfndfpaaGreatDoor
open Go.RowKit
theorem ext_app {s v : ByteArray} {a k : Nat} (hk : k ≤ s.size) : (s ++ v).extract a k = s.extract a k := by
  by_cases ha : a ≤ k
  · have h : AtB (s ++ v) a (s.extract a k) := by
      refine ⟨s.extract 0 a, s.extract k s.size ++ v, ?_, by rw [ByteArray.size_extract]; omega⟩
      have e : s = s.extract 0 a ++ s.extract a k ++ s.extract k s.size := by
        rw [ByteArray.extract_append_extract, Nat.min_eq_left (Nat.zero_le a), Nat.max_eq_right ha, ByteArray.extract_append_extract, Nat.min_eq_left (Nat.zero_le k), Nat.max_eq_right hk, ByteArray.extract_zero_size]
      conv => lhs; rw [e]
      simp only [ByteArray.append_assoc]
    have := at_extract h
    rw [ByteArray.size_extract, show a + (min k s.size - a) = k by omega] at this
    exact this
  · apply ByteArray.ext
    have e1 : ((s ++ v).extract a k).size = 0 := by rw [ByteArray.size_extract]; omega
    have e2 : (s.extract a k).size = 0 := by rw [ByteArray.size_extract]; omega
    rw [empty_of e1, empty_of e2]
/-- the lines of a text that goes on behind an end of line -/
theorem lns_ahead {s m : ByteArray} : ∀ (d a k : Nat), s.size - k ≤ d → a ≤ k → k ≤ s.size → ∃ X, lnsFrom (s ++ (nlT ++ m)) a k = lnsFrom s a k ++ X := by
  have hz : (s ++ (nlT ++ m)).size = s.size + 1 + m.size := by rw [size_app, size_app, show nlT.size = 1 from rfl]; omega
  intro d
  induction d with
  | zero =>
    intro a k hd ha hk
    obtain rfl : k = s.size := by omega
    have h10 : (s ++ (nlT ++ m))[s.size]'(by omega) = 10 := by
      rw [ByteArray.getElem_append_right (Nat.le_refl _)]
      simp only [Nat.sub_self]
      rfl
    rw [lns_cut (by omega) h10, lns_end (s := s) (Nat.lt_irrefl _), ext_app (Nat.le_refl _)]
    split
    · exact ⟨_, rfl⟩
    · exact ⟨_, rfl⟩
  | succ d ih =>
    intro a k hd ha hk
    by_cases h : k < s.size
    case neg => exact ih a k (by omega) ha hk
    have hb : (s ++ (nlT ++ m))[k]'(by omega) = s[k] := ByteArray.getElem_append_left h
    by_cases c : s[k] = 10
    · obtain ⟨X, hX⟩ := ih (k + 1) (k + 1) (by omega) (Nat.le_refl _) (by omega)
      rw [lns_cut (by omega) (hb.trans c), lns_cut h c, hX, ext_app (by omega)]
      exact ⟨X, rfl⟩
    · obtain ⟨X, hX⟩ := ih a (k + 1) (by omega) (by omega) (by omega)
      rw [lns_on (by omega) (fun e => c (hb.symm.trans e)), lns_on h c, hX]
      exact ⟨X, rfl⟩
/-! ### a fault's line -/
def onL (f : Flt) (n : Int) : Prop := ¬ f.1 = 0 → f.2.1 = n
theorem on_orF {a b : Flt} {n : Int} (ha : onL a n) (hb : onL b n) : onL (orF a b) n := by
  unfold orF
  split
  · exact hb
  · exact ha
theorem on_chk {b : Bool} {f : Flt} {n : Int} (hf : f.2.1 = n) : onL (chk b f) n := by
  unfold chk
  split
  · exact fun c => absurd rfl c
  · exact fun _ => hf
theorem on_mk (e n a : Int) : onL (e, n, a) n := fun _ => rfl
theorem on_no (n : Int) : onL Flt.no n := fun c => absurd rfl c
theorem on_count (l : List (ByteArray × Int)) (all : ByteArray) (n : Int) (x y : Nat) : onL (countRes l all n x y) n := by
  unfold countRes
  split
  · exact fun _ => rfl
  split
  · exact fun _ => rfl
  · exact fun c => absurd rfl c
theorem on_spot (l : List (ByteArray × Int)) (f : Nat) (n : Int) : onL (spotRes l f n).2 n := by
  unfold spotRes
  split
  · exact fun c => absurd rfl c
  · exact fun _ => rfl
theorem on_save (r : ByteArray) (n a : Int) : onL (eraSave r n a) n := by
  unfold eraSave
  split
  · exact on_no n
  split
  · exact on_chk rfl
  · exact on_mk _ _ _
theorem on_rule (l : List (ByteArray × Int)) (n : Int) : onL (ruleFlt l n) n :=
  on_orF (on_chk rfl) (on_orF (on_chk rfl) (on_orF (on_chk rfl) (on_orF (on_chk rfl) (on_orF (on_spot l 5 n) (on_orF (on_mk _ _ _) (on_chk rfl))))))
theorem on_era (l : List (ByteArray × Int)) (i : Nat) (n : Int) : onL (eraFlt l i n) n := by
  refine on_orF (on_mk _ _ _) (on_orF (on_save _ _ _) (on_orF (on_chk rfl) ?_))
  split
  · exact on_orF (on_chk rfl) (on_spot _ _ _)
  · exact on_no n
theorem on_line (S : Sr) (l : List (ByteArray × Int)) (all : ByteArray) (n : Int) : onL (lineFlt S l all n) n := by
  unfold lineFlt
  split
  · exact on_orF (on_chk rfl) (on_orF (on_count _ _ _ _ _) (on_era _ _ _))
  split
  · exact on_orF (on_chk rfl) (on_orF (on_count _ _ _ _ _) (on_rule _ _))
  split
  · exact on_orF (on_chk rfl) (on_orF (on_count _ _ _ _ _) (on_orF (on_chk rfl) (on_era _ _ _)))
  split
  · exact on_orF (on_chk rfl) (on_orF (on_count _ _ _ _ _) (on_orF (on_chk rfl) (on_chk rfl)))
  · exact on_mk _ _ _
theorem on_step (S : Sr) (t : ByteArray) (n : Int) : onL (lineStep S t n).1 n := by
  unfold lineStep
  split
  · exact fun _ => rfl
  split
  · exact on_no n
  · exact on_line S _ t n
theorem go_line : ∀ (ts : List ByteArray) (n : Int) (S : Sr), ¬ (linesGo ts n S).1.1 = 0 → n ≤ (linesGo ts n S).1.2.1 ∧ (linesGo ts n S).1.2.1 < n + ts.length
  | [], _, _, h => absurd rfl h
  | t :: r, n, S, h => by
    unfold linesGo at h ⊢
    rw [List.length_cons]
    by_cases c : (lineStep S t n).1.1 = 0
    · rw [if_pos c] at h ⊢
      have := go_line r (n + 1) _ h
      omega
    · rw [if_neg c]
      have : (lineStep S t n).1.2.1 = n := on_step S t n c
      show n ≤ (lineStep S t n).1.2.1 ∧ (lineStep S t n).1.2.1 < _
      omega
theorem go_ahead : ∀ (ts X : List ByteArray) (n : Int) (S : Sr), ¬ (linesGo ts n S).1.1 = 0 → linesGo (ts ++ X) n S = linesGo ts n S
  | [], _, _, _, h => absurd rfl h
  | t :: r, X, n, S, h => by
    show linesGo (t :: (r ++ X)) n S = _
    unfold linesGo at h ⊢
    by_cases c : (lineStep S t n).1.1 = 0
    · rw [if_pos c] at h ⊢
      rw [if_pos c]
      exact go_ahead r X (n + 1) _ h
    · rw [if_neg c, if_neg c]
/-- WHAT IS WRONG STAYS, WHATEVER STANDS BEHIND ITS LINE; else nothing is wrong but that the last zone wants another era. -/
theorem src_ahead {s m : ByteArray} (hs : s.size ≤ 20000) (hm : m.size ≤ 20000) :
    ((srcRes s).2 = Flt.no ∨ ((lnsFrom s 0 0).length : Int) < (srcRes s).2.2.1) ∧ ((srcRes s).2 = Flt.no ∨ ((srcRes s).2.1 = 14 ∧ (srcRes s).2.2.2 = 0)) ∨
    ¬ (srcRes s).2 = Flt.no ∧ (srcRes s).2.2.1 ≤ ((lnsFrom s 0 0).length : Int) ∧ (srcRes (s ++ nlT ++ m)).2 = (srcRes s).2 ∧ (srcRes s).1 = .none := by
  by_cases e : (linesGo (lnsFrom s 0 0) 1 .none).1.1 = 0
  · left
    unfold srcRes
    rw [if_neg (by omega), if_neg (fun d => d e)]
    split
    · refine ⟨.inr ?_, .inr ⟨rfl, rfl⟩⟩
      show ((lnsFrom s 0 0).length : Int) < ((lnsFrom s 0 0).length : Int) + 1
      omega
    · exact ⟨.inl rfl, .inl rfl⟩
  · right
    have ln := go_line _ _ _ e
    obtain ⟨X, hX⟩ := lns_ahead (s := s) (m := m) s.size 0 0 (by omega) (Nat.le_refl _) (Nat.zero_le _)
    have ga := go_ahead _ X _ _ e
    have es : srcRes s = (.none, (linesGo (lnsFrom s 0 0) 1 .none).1) := by
      unfold srcRes
      rw [if_neg (by omega), if_pos e]
    have et : srcRes (s ++ nlT ++ m) = (.none, (linesGo (lnsFrom s 0 0) 1 .none).1) := by
      unfold srcRes
      rw [ByteArray.append_assoc, if_neg (by rw [size_app, size_app, show nlT.size = 1 from rfl]; omega), hX, ga, if_pos e]
    rw [es, et]
    refine ⟨fun c => e (congrArg (·.1) c), ?_, rfl, rfl⟩
    show (linesGo (lnsFrom s 0 0) 1 .none).1.2.1 ≤ _
    omega
end Go.Proofs.YtnkmlfbnfndfpaaGreatDoor
