/- Package fields: a line cut into fields, walked. -/
import Derived.Test.YtnojlbeiknkooaaFbuild
namespace Go.Proofs.Ytnojlbeiknkooaa
open Go.RowKit
theorem own_below {B : Nat} {e : TypeId} {k : Nat} {v : Value} {n : Nat} {xs : List Value} {w w' : World} (h : w.ownsRow B e k v n xs) (hb : Below w.heap.size w w') : w'.ownsRow B e k v n xs := by
  refine ⟨h.1, h.2.imp id ?_⟩
  rintro ⟨g, cap, cur, hv, hg, hh, rest⟩
  exact ⟨g, cap, cur, hv, hg, (hb.block g (h.lt g (by rw [hv]; rfl)).2).trans hh, rest⟩
theorem wordC_info : (Try.prog.info? 40).map (fun i => (i.zero, i.size, i.bytes)) = some (some (.agg #[.string ⟨#[]⟩, .int .i64 0]), 2, 24) := by kernel_rfl
theorem field_size (s : ByteArray) (k : Nat) : (fieldRes s k).1.size ≤ s.size := by
  have h : (headRes s k).1.size ≤ s.size := by
    unfold headRes quoRes
    split
    · split
      · exact Nat.zero_le _
      · split
        · simp only [ByteArray.size_extract]; omega
        · exact Nat.zero_le _
    · simp only [ByteArray.size_extract]; omega
  unfold fieldRes
  split
  · exact h
  · exact h
def CutRel (w : World) (s : ByteArray) (v i : Value) (wr : World) : Prop :=
  ∃ (out : List (ByteArray × Int)) (k n f : Nat), k ≤ s.size ∧ wr.ownsRow w.heap.size 40 2 v n (words out) ∧ i = .int .i64 k ∧ n ≤ 16 ∧ s.size - k < f ∧ fixR s (splitGo s f out k) = splitC s ∧ Below w.heap.size w wr ∧ (∀ h : k < s.size, blankB s[k].toNat = false ∧ ¬ s[k] = 35)
set_option maxRecDepth 100000 in
set_option maxHeartbeats 16000000 in
theorem splitP (s : ByteArray) (w : World) : Calls Try.prog 12 #[.string s] w (RetFld w (splitC s)) := by
  obtain ⟨i0, hi, hz0, hz1, hz2⟩ := info_partsS wordC_info
  by_cases h500 : 500 < s.size
  · have E := Lib.hid (show splitC s = ([], 500, 12) from if_pos h500)
    go_enter Try.func12, Try.ntmps12
    go_wp2
    go_ret3
    exact ⟨none, 0, 0, by rw [E.out]; rfl, by rw [E.out]; exact Fs.nil _, Below.refl _ _⟩
  · have E : splitC s = fixR s (splitGo s (s.size + 1) [] 0) := by
      unfold splitC splitRes
      rw [if_neg h500, if_neg h500]
    obtain ⟨g0, g1, g2⟩ := skip (s := s) (out := []) s.size 0 (s.size + 1) (by omega) (Nat.zero_le _) (by omega)
    rw [g2] at E
    replace E := Lib.hid E
    have SW := Lib.hid (startP s (by omega) 0 (Nat.zero_le _))
    have SA := Lib.hid (fun h => start_at (s := s) (k := 0) h)
    have sl := (start_le (s := s) (k := 0) (Nat.zero_le _)).2
    clear g2
    generalize startOf s 0 = k0 at *
    go_enter Try.func12, Try.ntmps12
    go_wp2_with (go_at_call 20; refine (SW.out _).mono ?_; clear SW; rintro e w' ⟨rfl, rfl⟩)
    go_loopw [5, 6] (fun v i wr => CutRel w s v i wr) (fun _ i _ => s.size - (intOf i).toNat)
    case atStart => exact ⟨[], k0, 0, g0, sl, World.ownsRow_nil w _ _ _, rfl, by omega, g1, E.out.symm, Below.refl _ _, SA.out⟩
    case round =>
      clear E SA sl g1
      obtain ⟨out, k, n, f, hk, hown, rfl, hn, hf, he, hbel, hat⟩ := hrel
      obtain ⟨A, c, rfl, hS⟩ := Fs.of_own hown
      have hsz := hbel.size
      have LN := hS.len
      obtain ⟨f, rfl⟩ : ∃ g, f = g + 1 := ⟨f - 1, by omega⟩
      by_cases h1 : k < s.size
      · obtain ⟨nb, nr⟩ := hat h1
        obtain ⟨S1, S2, S3, S4, S5, S6⟩ := step (f := f) (out := out) h1 nb nr
        have FW := Lib.hid (fieldP s (by omega) k h1)
        have S7 := field_size s k
        clear nb nr hat
        rw [he] at S1 S2
        generalize fieldRes s k = r at *
        obtain ⟨t, b, x⟩ := r
        simp only at S1 S2 S3 S4 S5 S6 S7 FW
        by_cases m : n = 16 ∧ ¬ x = (k : Int)
        · have EE := Lib.hid (S1 (by omega) m.2)
          have g3 : (x != (k : Int)) = true := by rw [bne_iff_ne]; exact m.2
          obtain rfl := m.1
          clear S1 S2 S3 m he LN
          go_wp2_with (go_at_call 21; refine (FW.out _).mono ?_; rintro e w' ⟨rfl, rfl⟩)
          go_ret3
          exact ⟨none, 0, 0, by rw [EE.out]; rfl, by rw [EE.out]; exact Fs.nil _, hbel⟩
        · skip
          by_cases y : x = -1
          · have na : ¬ n = 16 := fun a => m ⟨a, by omega⟩
            obtain ⟨T1, T2, T3⟩ := S3 (by omega) y
            have n16 : ((n : Int) == 16) = false := by rw [beq_eq_false_iff_ne]; omega
            subst y
            obtain ⟨g, G1, G2⟩ := skip (s := s) (out := out ++ [(t, (k : Int))]) s.size b f (by omega) T3 (by omega)
            have EE := Lib.hid (show fixR s (splitGo s g (out ++ [(t, (k : Int))]) (startOf s b)) = splitC s by rw [← G2, ← T1, he])
            have SW := Lib.hid (startP s (by omega) b T3)
            have SA := Lib.hid (fun h => start_at (s := s) (k := b) h)
            have sl := start_le T3
            have CW := Lib.hid (cloneP t (by omega))
            clear S1 S2 S3 he T1 G2 m
            generalize startOf s b = k1 at *
            go_wp2_with first
              | (go_at_call 21; refine (FW.out _).mono ?_; clear FW; rintro e w' ⟨rfl, rfl⟩)
              | (go_at_call 19; refine (CW.out _).mono ?_; clear CW; rintro e w1 ⟨rfl, hb1⟩; have hown1 := own_below hown hb1; have sz1 := hb1.size; have lt1 := hown1.lt; have hbel1 := hbel.trans (hb1.mono hsz))
              | (go_at_call 20; refine (SW.out _).mono ?_; clear SW; rintro e w' ⟨rfl, rfl⟩)
              | (at_builtin
                 refine wpList_append_own_at _ rfl (.tmp 38) (.tmp 43) 27 rfl w.heap.size 40 i0 _ 2 24 Try.underlying27 hi hz0 hz1 hz2 rfl (by decide) (.slice A n c) n (words out) rfl (hown1.alloc _) ⟨w1.heap.size, 0, none⟩ 1 1 [.string t, .int .i64 k] rfl rfl (cell_two_new _ _ _ _) ?_ ?_ ?_ ?_ ?_
                 · intro u hu; rcases List.mem_cons.1 hu with hu | hu; rw [hu]; rfl; rw [List.mem_singleton.1 hu]; rfl
                 · unfold maxLen; omega
                 · omega
                 · simp; omega
                 intro v1 w2 hown2 hg2 _ _)
            rw [words_snoc] at hown2
            go_roundw
            case rel => exact ⟨out ++ [(t, (k : Int))], k1, n + 1, g, sl.2, hown2, rfl, by omega, G1, EE.out, (hbel1.alloc (by omega) _).grown hg2 (by simp; omega) (fun q hq => (lt1 q hq).1), SA.out⟩
            case measure => simp only [intOf]; omega
          · have EE := Lib.hid (S2 (by rw [LN]; exact m) y)
            have y1 : (x != -1) = true := by rw [bne_iff_ne]; exact y
            clear S1 S2 S3 he LN y
            by_cases a : n = 16
            · have gx : (x != (k : Int)) = false := by
                rw [bne_eq_false_iff_eq]
                exact Classical.byContradiction fun c => m ⟨a, c⟩
              obtain rfl := a
              clear m
              go_wp2_with (go_at_call 21; refine (FW.out _).mono ?_; rintro e w' ⟨rfl, rfl⟩)
              go_ret3
              exact ⟨none, 0, 0, by rw [EE.out]; rfl, by rw [EE.out]; exact Fs.nil _, hbel⟩
            · have n16 : ((n : Int) == 16) = false := by rw [beq_eq_false_iff_ne]; omega
              clear m
              go_wp2_with (go_at_call 21; refine (FW.out _).mono ?_; rintro e w' ⟨rfl, rfl⟩)
              go_ret3
              exact ⟨none, 0, 0, by rw [EE.out]; rfl, by rw [EE.out]; exact Fs.nil _, hbel⟩
      · obtain rfl : k = s.size := by omega
        have EE := Lib.hid (show splitC s = (out, 0, 0) by rw [← he, sp_end h1]; exact fix_id (by simp))
        clear he hat
        go_wp2
        go_ret3
        exact ⟨A, n, c, by rw [EE.out]; rfl, by rw [EE.out]; exact hS, hbel⟩
end Go.Proofs.Ytnojlbeiknkooaa
