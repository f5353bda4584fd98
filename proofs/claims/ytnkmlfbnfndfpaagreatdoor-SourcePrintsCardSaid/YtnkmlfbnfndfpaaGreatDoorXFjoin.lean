/- Package fields: fields joined to a line, walked. -/
import Derived.Test.YtnkmlfbnfndfpaaGreatDoorXGf
import Derived.Test.YtnkmlfbnfndfpaaGreatDoorXGq
set_option maxRecDepth 100000
set_option maxHeartbeats 64000000
namespace Go.Proofs.YtnkmlfbnfndfpaaGreatDoor
open Go.RowKit
theorem joinRes_no {l : List ByteArray} {i : Nat} (hi : i < l.length) (bad : ¬ okText l[i]) : joinRes l = (⟨#[]⟩, 6) := by
  unfold joinRes
  rw [if_neg fun h => bad (h i hi)]
theorem joinRes_many {l : List ByteArray} (ok : allOk l) (h : 16 < l.length) : joinRes l = (⟨#[]⟩, 12) := by
  unfold joinRes
  rw [if_pos ok, if_pos (.inl h)]
theorem joinRes_long {l : List ByteArray} (ok : allOk l) (h : 500 < (joinGo l l.length).size) : joinRes l = (⟨#[]⟩, 12) := by
  unfold joinRes
  rw [if_pos ok, if_pos (.inr h)]
theorem joinRes_fine {l : List ByteArray} (ok : allOk l) (h1 : ¬ 16 < l.length) (h2 : ¬ 500 < (joinGo l l.length).size) : joinRes l = (joinGo l l.length, 0) := by
  unfold joinRes
  rw [if_pos ok, if_neg fun c => c.elim h1 h2]
theorem join_written {l : List ByteArray} {i : Nat} (h : i < l.length) : joinGo l (i + 1) = (if 0 < i then joinGo l i ++ ⟨#[32]⟩ else joinGo l i) ++ writtenT l[i] := by
  rw [join_succ h]
  unfold writtenT
  split
  · rfl
  · simp only [ByteArray.append_assoc]
theorem written_size (t : ByteArray) : (writtenT t).size ≤ t.size + 2 := by
  unfold writtenT
  split
  · omega
  · have e34 : (⟨#[34]⟩ : ByteArray).size = 1 := rfl
    simp only [size_app, e34]
    omega
theorem joinP (A : Option Addr) (n c : Nat) (l : List ByteArray) (w : World) (ha : Ss w A n c l) (hl : smallTexts l) :
    Calls Tryz.prog 82 #[.slice A n c] w (RetSB w (joinRes l)) := by
  have JS := Lib.hid (fun i => join_size hl i)
  have n100 : n ≤ 100 := by have := hl.1; have := ha.len; omega
  have LN := Lib.hid ha.len
  have HS := Lib.hid hl.2
  have SA := Lib.hid (fun wr (hb : Below w.heap.size w wr) => (ha.below hb).cells)
  clear hl
  go_enter Tryz.func82, Tryz.ntmps82
  go_wp2
  go_loop [11] (fun v => ∃ i : Nat, i ≤ n ∧ v = .int .i64 i ∧ (∀ (j : Nat) (h : j < l.length), j < i → okText l[j])) (fun v => n - (intOf v).toNat)
  case atStart => exact ⟨0, by omega, rfl, fun _ _ h => absurd h (by omega)⟩
  case round =>
    obtain ⟨i, hi, rfl, hok⟩ := hrel
    by_cases h1 : i < n
    · have il : i < l.length := by rw [LN.out]; exact h1
      have OK := Lib.hid hok
      clear hok
      obtain ⟨g, o, rfl, _, ca⟩ := SA.out w (Below.refl _ _) (by omega)
      have cell := ca i il
      clear ca
      have sz := HS.out i il
      have NO := Lib.hid (fun bad => joinRes_no il bad)
      have OKN := Lib.hid (fun (h : okText l[i]) (j : Nat) (hj : j < l.length) (hlt : j < i + 1) => show okText l[j] from by
        by_cases e : j = i
        · subst e; exact h
        · exact OK.out j hj (by omega))
      generalize ht : l[i] = t at *
      clear ht OK
      have AW := Lib.hid (all_ok t (by omega))
      by_cases ok : okText t
      · have NX := Lib.hid (OKN.out ok)
        rw [nat_eqb (ok_iff.1 ok)] at AW
        clear OKN NO ok
        go_wp2_with (go_at_call 116; refine (AW.out _).mono ?_; rintro e w' ⟨rfl, rfl⟩)
        go_round
        case rel => exact ⟨i + 1, by omega, by go_num, NX.out⟩
        case measure => simp [intOf]; omega
      · have E := Lib.hid (NO.out ok)
        rw [nat_neb (fun c => ok (ok_iff.2 c))] at AW
        clear OKN NO ok
        go_wp2_with (go_at_call 116; refine (AW.out _).mono ?_; rintro e w' ⟨rfl, rfl⟩)
        go_ret2
        exact ⟨by rw [E.out]; rfl, Below.refl _ _⟩
    · obtain rfl : i = n := by omega
      have OK := Lib.hid (show allOk l from fun j hj => hok j hj (by rw [← LN.out]; exact hj))
      clear hok
      by_cases h16 : 16 < i
      · have E := Lib.hid (joinRes_many OK.out (by rw [LN.out]; exact h16))
        go_wp2
        go_ret2
        exact ⟨by rw [E.out]; rfl, Below.refl _ _⟩
      · have B0 := Bld.new w
        have h0 : Below w.heap.size w (w.alloc (.cells #[.pointer none, .slice none 0 0] 88)) := (Below.refl _ _).alloc (Nat.le_refl _) _
        have J0 := Lib.hid (show joinGo l 0 = ⟨#[]⟩ from rfl)
        go_wp2
        go_loopw [24] (fun v wr => ∃ k : Nat, k ≤ i ∧ v = .int .i64 k ∧ Bld w.heap.size (joinGo l k) wr ∧ Below w.heap.size w wr) (fun v _ => i - (intOf v).toNat)
        case atStart => exact ⟨0, by omega, rfl, by rw [J0.out]; exact B0, h0⟩
        case round =>
          clear B0 h0
          obtain ⟨k, hk, rfl, hB, hbel⟩ := hrel
          have szr := hbel.size
          have js := JS.out k
          by_cases h3 : k < i
          · have il : k < l.length := by rw [LN.out]; exact h3
            obtain ⟨g, o, rfl, _, ca⟩ := SA.out wr hbel (by omega)
            have cell := ca k il
            clear ca
            have sz := HS.out k il
            have NX := join_written il
            generalize ht : l[k] = t at *
            clear ht
            have WW := Lib.hid (writtenP t (by omega))
            have ws := written_size t
            by_cases k0 : 0 < k
            · rw [if_pos k0] at NX
              replace NX := Lib.hid NX
              have CB := Lib.hid (bldByte w.heap.size (joinGo l k) 32 wr hB (by omega) szr)
              clear hB
              have e32 : (joinGo l k ++ ⟨#[32]⟩).size = (joinGo l k).size + 1 := by rw [size_app]; rfl
              generalize joinGo l k = x at *
              generalize writtenT t = y at *
              go_wp2_with first
                | (go_at_call 84; refine CB.out.mono ?_; clear CB; rintro e w1 ⟨rfl, hB1, hb1⟩; have hbel1 := hbel.trans hb1; have szr1 := hbel1.size)
                | (go_at_call 118; refine (WW.out _).mono ?_; clear WW; rintro e w' ⟨rfl, rfl⟩)
                | (go_at_call 83; refine (bldText w.heap.size _ y w1 hB1 (by omega) szr1).mono ?_; rintro e w2 ⟨rfl, hB2, hb2⟩)
              go_roundw
              case rel => exact ⟨k + 1, by omega, int_eqS (by omega), by rw [NX.out]; exact hB2, hbel1.trans hb2⟩
              case measure => simp only [intOf]; omega
            · rw [if_neg k0] at NX
              replace NX := Lib.hid NX
              generalize joinGo l k = x at *
              generalize writtenT t = y at *
              go_wp2_with first
                | (go_at_call 118; refine (WW.out _).mono ?_; clear WW; rintro e w' ⟨rfl, rfl⟩)
                | (go_at_call 83; refine (bldText w.heap.size x y wr hB (by omega) szr).mono ?_; rintro e w2 ⟨rfl, hB2, hb2⟩)
              go_roundw
              case rel => exact ⟨k + 1, by omega, int_eqS (by omega), by rw [NX.out]; exact hB2, hbel.trans hb2⟩
              case measure => simp only [intOf]; omega
          · obtain rfl : k = i := by omega
            have LJ := joinRes_long OK.out
            have FJ := joinRes_fine OK.out (by rw [LN.out]; exact h16)
            rw [LN.out] at LJ FJ
            have CL := Lib.hid (bldLen w.heap.size (joinGo l k) wr hB)
            have CS := Lib.hid (bldDone w.heap.size (joinGo l k) wr hB szr)
            clear hB
            generalize joinGo l k = x at *
            by_cases h5 : 500 < x.size
            · have E := Lib.hid (LJ h5)
              clear LJ FJ
              go_wp2_with (go_at_call 119; refine CL.out.mono ?_; rintro e w' ⟨rfl, rfl⟩)
              go_ret2
              exact ⟨by rw [E.out]; rfl, hbel⟩
            · have E := Lib.hid (FJ h5)
              clear LJ FJ
              go_wp2_with first
                | (go_at_call 119; refine CL.out.mono ?_; clear CL; rintro e w' ⟨rfl, rfl⟩)
                | (go_at_call 55; refine CS.out.mono ?_; clear CS; rintro e w2 ⟨rfl, hb2⟩)
              go_ret2
              exact ⟨by rw [E.out]; rfl, hbel.trans hb2⟩
end Go.Proofs.YtnkmlfbnfndfpaaGreatDoor
