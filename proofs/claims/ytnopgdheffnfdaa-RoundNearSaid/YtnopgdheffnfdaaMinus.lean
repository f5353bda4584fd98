/- The call minus on digits: the difference's digits, in new memory, where the first number is not less. -/
import Derived.Test.YtnopgdheffnfdaaPlus
import Derived.Deep.QuietTactic
import Derived.BigQuiet
namespace Go.Proofs.Ytnopgdheffnfdaa
open Go.RowKit

theorem ds_drewN {w : World} {A : Option Addr} {n c : Nat} {l : List Nat} (h : Ds w A n c l) (k : Nat) : Ds (w.drewN k) A n c l := h.below (below_drewN (Below.refl _ _) k)
theorem digit_same {A : Option Addr} {n c : Nat} {l : List Nat} {i : Nat} {w : World} (h : Ds w A n c l) (hn : n ≤ 1000000) (hi : i ≤ 4000000) :
    Calls Try.prog 58 #[.slice A n c, .int .i64 i] w fun e w' => e = .returned (.int .i64 (l.getD i 0 : Nat)) ∧ w' = w :=
  (digit_any A n c l i w h hn hi).mono fun _ _ ⟨h1, h2⟩ => ⟨h1, h2.symm⟩

theorem own_drewN {w : World} {base : Nat} {e : TypeId} {size : Nat} {v : Value} {n : Nat} {xs : List Value} (h : w.ownsRow base e size v n xs) (k : Nat) : (w.drewN k).ownsRow base e size v n xs := h

/-- What holds at the head of a round of minus. -/
def MinusRel (w : World) (n : Nat) (a b : List Nat) (v cr i : Value) (wr : World) : Prop :=
  ∃ (out : List Nat) (c k : Nat), wr.ownsRow w.heap.size 3 1 v k (ints out) ∧ cr = .int .i64 c ∧ i = .int .i64 k ∧ out.length = k ∧ Dig out ∧ c ≤ 1 ∧ k ≤ n ∧
    val out + val (b.take k) = val (a.take k) + c * 65536 ^ k ∧ Below w.heap.size w wr

set_option maxHeartbeats 1000000 in
theorem minus_any (A B : Option Addr) (n m c d : Nat) (a b : List Nat) (w : World) (ha : Ds w A n c a) (hb : Ds w B m d b) (hn : n ≤ 1000000) (hm : m ≤ n) (hle : val b ≤ val a) :
    Calls Try.prog 42 #[.slice A n c, .slice B m d] w (RetDs w (val a - val b) n) := by
  obtain ⟨i0, hi, hz0, hz1, hz2⟩ := info_parts int_info
  have HLE := Lib.hid hle
  clear hle
  go_enter Try.func42, Try.ntmps42
  go_wp2
  go_loopw [5, 6, 7] (fun v cr i wr => MinusRel w n a b v cr i wr) (fun _ _ i _ => n - (intOf i).toNat)
  case atStart => exact ⟨[], 0, 0, World.ownsRow_nil w _ _ _, rfl, rfl, rfl, Dig.nil, by omega, by omega, by simp [val], Below.refl _ _⟩
  case round =>
    obtain ⟨out, cy, k, hown, rfl, rfl, hl, hdo, hc1, hk, hv, hbel⟩ := hrel
    have hlt := hown.lt
    have hsz := hbel.size
    by_cases h1 : k < n
    case neg =>
      have hkn : k = n := by omega
      have e : val out = val a - val b := by
        refine minus_end hdo (by rw [hl, ha.len]; exact hkn) (by rw [ha.len, hb.len]; exact hm) HLE.out (c := cy) ?_
        rw [ha.len, ← hkn]; exact hv
      have HE := Lib.hid e
      clear e hv hl hkn
      go_wp2
      obtain ⟨C, f, rfl, hD⟩ := Ds.of_own hown hdo
      go_ret
      exact ⟨C, k, f, out, rfl, hD, HE.out, hk, hbel⟩
    case pos =>
      have x1 := ha.dig.getD k
      have y1 := hb.dig.getD k
      have hstep := minus_step ha.dig hb.dig hdo hl hv
      have ha' := ha.below hbel
      obtain ⟨g, hA, hg, hc⟩ := ha'.cells (by omega)
      subst hA
      have hcell := hc k h1
      have C2 := fun j => digit_same (i := k) (ds_drewN (hb.below hbel) j) (by omega) (by omega)
      have HL := Lib.hid hl
      clear hv hl hc
      generalize hx : a.getD k 0 = x at *
      generalize hy : b.getD k 0 = y at *
      clear hx hy
      have HS := Lib.hid hstep
      clear hstep
      have hneg : (x : Int) - y - cy < 0 ∨ ¬ ((x : Int) - y - cy < 0) := by omega
      rcases hneg with h2 | h2
      · obtain ⟨dd, hd1, hd2⟩ : ∃ dd : Nat, (dd : Int) = (x : Int) - y - cy + 65536 ∧ dd < 65536 := ⟨((x : Int) - y - cy + 65536).toNat, by omega, by omega⟩
        obtain ⟨hs1, hs2⟩ := HS.out dd 1 (by omega) hd2
        have HS2 := Lib.hid hs2
        have HD := Lib.hid hd1
        clear hs2 hd1
        go_wp2_with fail
        go_quiet ((go_at_call 58; exact Calls.quiet_of_same (C2 _)))
        go_wp2_with (at_builtin
                     refine wpList_append_own_at _ rfl (.tmp 29) (.tmp 31) 36 rfl w.heap.size 3 i0 _ 1 8 Try.underlying36 hi hz0 hz1 hz2 rfl (by decide) u5 k (ints out) rfl ((own_drewN hown nq).alloc _) ⟨wr.heap.size, 0, none⟩ 1 1 [.int .i64 ((x : Int) - y - cy + 65536)] rfl rfl (cell_one_new (wr.drewN nq) _ _) ?_ ?_ ?_ ?_ ?_
                     · intro u hu; rw [List.mem_singleton.1 hu]; rfl
                     · unfold maxLen; omega
                     · omega
                     · simp; omega
                     intro v1 w1 hown1 hg1 _ _)
        go_roundw
        case rel =>
          refine ⟨out ++ [dd], 1, k + 1, ?_, int_eq (by omega), int_eq (by omega), by rw [List.length_append, HL.out]; rfl, hs1, by omega, by omega, HS2.out, ?_⟩
          · rw [ints_snoc out dd _ HD.out.symm] at hown1
            exact hown1
          · exact ((below_drewN hbel nq).alloc hsz _).grown hg1 (by simp; omega) (fun q hq => (hlt q hq).1)
        case measure => simp only [intOf]; omega
      · obtain ⟨dd, hd1, hd2⟩ : ∃ dd : Nat, (dd : Int) = (x : Int) - y - cy ∧ dd < 65536 := ⟨((x : Int) - y - cy).toNat, by omega, by omega⟩
        obtain ⟨hs1, hs2⟩ := HS.out dd 0 (by omega) hd2
        have HS2 := Lib.hid hs2
        have HD := Lib.hid hd1
        clear hs2 hd1
        go_wp2_with fail
        go_quiet ((go_at_call 58; exact Calls.quiet_of_same (C2 _)))
        go_wp2_with (at_builtin
                     refine wpList_append_own_at _ rfl (.tmp 29) (.tmp 31) 36 rfl w.heap.size 3 i0 _ 1 8 Try.underlying36 hi hz0 hz1 hz2 rfl (by decide) u5 k (ints out) rfl ((own_drewN hown nq).alloc _) ⟨wr.heap.size, 0, none⟩ 1 1 [.int .i64 ((x : Int) - y - cy)] rfl rfl (cell_one_new (wr.drewN nq) _ _) ?_ ?_ ?_ ?_ ?_
                     · intro u hu; rw [List.mem_singleton.1 hu]; rfl
                     · unfold maxLen; omega
                     · omega
                     · simp; omega
                     intro v1 w1 hown1 hg1 _ _)
        go_roundw
        case rel =>
          refine ⟨out ++ [dd], 0, k + 1, ?_, int_eq (by omega), int_eq (by omega), by rw [List.length_append, HL.out]; rfl, hs1, by omega, by omega, HS2.out, ?_⟩
          · rw [ints_snoc out dd _ HD.out.symm] at hown1
            exact hown1
          · exact ((below_drewN hbel nq).alloc hsz _).grown hg1 (by simp; omega) (fun q hq => (hlt q hq).1)
        case measure => simp only [intOf]; omega
end Go.Proofs.Ytnopgdheffnfdaa
