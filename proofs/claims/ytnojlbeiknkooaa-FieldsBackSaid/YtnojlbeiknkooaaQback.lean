/- Stage 8's laws: what was joined is split into the same. -/
import Derived.Test.YtnojlbeiknkooaaSalive
import Derived.Test.YtnojlbeiknkooaaSlong
import Derived.Test.YtnojlbeiknkooaaSbackc
namespace Go.Proofs.Ytnojlbeiknkooaa
open Go.RowKit
theorem join_err {l : List ByteArray} {u : ByteArray} {q : Int} (h : joinRes l = (u, q)) : (q = 0 ∧ u.size ≤ 500) ∨ (¬ q = 0 ∧ u = ⟨#[]⟩) := by
  unfold joinRes at h
  split at h
  · split at h
    · cases h; exact .inr ⟨by decide, rfl⟩
    · rename_i n12
      cases h; exact .inl ⟨rfl, by omega⟩
  · cases h; exact .inr ⟨by decide, rfl⟩
set_option maxRecDepth 100000 in
set_option maxHeartbeats 8000000 in
theorem backL (C : FieldsP) (A : Option Addr) (n c : Nat) (l : List ByteArray) (w : World) (ha : Ss w A n c l) (hn : n ≤ maxLen) (hz : ∀ (i : Nat) (h : i < l.length), l[i].size ≤ maxLen) :
    Calls Try.prog 6 #[.slice A n c] w (RetV w (.bool true)) := by
  have AL := Lib.hid (alive8 C)
  by_cases hl : smallTexts l
  · have LN := Lib.hid (long_no A n c l w ha hl)
    have JN := Lib.hid (C.join A n c l w ha hl)
    have JE := Lib.hid (fun u q (h : joinRes l = (u, q)) => join_err h)
    have BK := Lib.hid (fun s (h : joinRes l = (s, 0)) => back h)
    have n100 : n ≤ 100 := by have := hl.1; have := ha.len; omega
    have LL := Lib.hid ha.len
    generalize joinRes l = r at *
    obtain ⟨u, q⟩ := r
    clear hl hz
    rcases JE.out u q rfl with ⟨rfl, hu⟩ | ⟨q0, rfl⟩
    · obtain ⟨ws, hw, hm⟩ := BK.out u rfl
      have SP := Lib.hid (fun W => (C.split u (by unfold maxLen; omega) ws hw W : Calls Try.prog 12 #[.string u] W (RetFld W (ws, 0, 0))))
      have lm : ws.length = n := by have := congrArg List.length hm; rw [List.length_map, LL.out] at this; exact this
      have EQ := Lib.hid (fun (k : Nat) (h : k < ws.length) (h2 : k < l.length) => show ws[k].1 = l[k] by subst hm; simp)
      clear BK JE hw hm C
      go_enter Try.func6, Try.ntmps6
      go_wp2_with fail
      refine LN.out.mono ?_
      rintro e w' ⟨rfl, rfl⟩
      go_wp2_with fail
      refine JN.out.mono ?_
      rintro e w1 ⟨rfl, hb⟩
      have sz := hb.size
      have ha1 := ha.below hb
      go_wp2_with fail
      refine (SP.out _).mono ?_
      rintro e w2 ⟨B, m, d, rfl, hB, hb2⟩
      have sz2 := hb2.size
      have ha2 := ha1.below hb2
      obtain rfl : n = m := lm.symm.trans hB.len
      have h02 : Below w.heap.size w w2 := hb.trans (hb2.mono sz)
      clear ha ha1 hb hb2 LN JN SP sz sz2
      go_wp2_with fail
      go_loopw [8] (fun i wr => ∃ k : Nat, k ≤ n ∧ i = .int .i64 k ∧ Below w2.heap.size w2 wr) (fun i _ => n - (intOf i).toNat)
      case atStart => exact ⟨0, by omega, rfl, Below.refl _ _⟩
      case round =>
        obtain ⟨k, hk, rfl, hbel⟩ := hrel
        by_cases h1 : k < n
        · have kl : k < l.length := by rw [LL.out]; exact h1
          have kw : k < ws.length := by omega
          obtain ⟨g, o, rfl, _, ca⟩ := (ha2.below hbel).cells (by omega)
          obtain ⟨g', o', rfl, _, cb⟩ := (hB.below hbel).cells (by omega)
          have xa := ca k kl
          have xb := (cb k kw).1
          rw [EQ.out k kw kl] at xb
          rw [Nat.mul_comm 2 k] at xb
          clear ca cb
          generalize l[k] = t at *
          go_wp2_with fail
          go_region
          all_goals
            go_wp2
            go_roundw
            case rel => exact ⟨k + 1, by omega, int_eqS (by omega), (below_drewN hbel _)⟩
            case measure => simp only [intOf]; omega
        · have hkm : k = n := by omega
          have sz3 := hbel.size
          have sz02 := h02.size
          go_wp2_with fail
          refine (AL.out _).mono ?_
          rintro e w3 ⟨rfl, hb3⟩
          go_wp2
          go_ret
          exact ⟨rfl, h02.trans ((hbel.mono sz02).trans (hb3.mono (by omega)))⟩
    · clear BK JE C ha
      have q0' : (q != 0) = true := by rw [bne_iff_ne]; exact q0
      go_enter Try.func6, Try.ntmps6
      go_wp2_with fail
      refine LN.out.mono ?_
      rintro e w' ⟨rfl, rfl⟩
      go_wp2_with fail
      refine JN.out.mono ?_
      rintro e w1 ⟨rfl, hb⟩
      have sz := hb.size
      go_wp2_with fail
      refine (AL.out _).mono ?_
      rintro e w2 ⟨rfl, hb2⟩
      go_wp2
      go_ret
      exact ⟨rfl, hb.trans (hb2.mono sz)⟩
  · have LN := Lib.hid (long_yes A n c l w ha hn hz hl)
    clear ha hl C hz
    go_enter Try.func6, Try.ntmps6
    go_wp2_with fail
    refine LN.out.mono ?_
    rintro e w' ⟨rfl, rfl⟩
    go_wp2_with fail
    refine (AL.out _).mono ?_
    rintro e w2 ⟨rfl, hb2⟩
    go_wp2
    go_ret
    exact ⟨rfl, hb2⟩
end Go.Proofs.Ytnojlbeiknkooaa
