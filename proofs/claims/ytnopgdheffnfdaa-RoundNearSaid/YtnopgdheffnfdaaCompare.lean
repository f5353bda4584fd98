/- The call compare on digits: how two numbers stand to each other. -/
import Derived.Test.YtnopgdheffnfdaaMinus
namespace Go.Proofs.Ytnopgdheffnfdaa
open Go.RowKit

/-- -1, 0, 1 -/
def cmpN (x y : Nat) : Int := if x < y then -1 else if y < x then 1 else 0
theorem cmpN_lt {x y : Nat} (h : x < y) : cmpN x y = -1 := by unfold cmpN; rw [if_pos h]
theorem cmpN_gt {x y : Nat} (h : y < x) : cmpN x y = 1 := by unfold cmpN; rw [if_neg (by omega), if_pos h]
theorem cmpN_eq {x y : Nat} (h : x = y) : cmpN x y = 0 := by unfold cmpN; rw [if_neg (by omega), if_neg (by omega)]
def RetI (w : World) (x : Int) (e : Ending) (w' : World) : Prop := e = .returned (.int .i64 x) ∧ ∃ j, w' = w.drewN j

def CmpRel (w : World) (n : Nat) (a b : List Nat) (i : Value) (wr : World) : Prop :=
  ∃ k : Nat, k ≤ n ∧ i = .int .i64 ((k : Int) - 1) ∧ a.drop k = b.drop k ∧ ∃ j, wr = w.drewN j

set_option maxHeartbeats 1000000 in
theorem compare_any (A B : Option Addr) (n m c d x y : Nat) (w : World) (ha : Ds w A n c (digs x)) (hb : Ds w B m d (digs y)) (hn : n ≤ 1000000) (hm : m ≤ 1000000) :
    Calls Try.prog 41 #[.slice A n c, .slice B m d] w (RetI w (cmpN x y)) := by
  have hla := ha.len
  have hlb := hb.len
  rcases Nat.lt_trichotomy n m with h | h | h
  · rw [cmpN_lt (lt_of_len_lt (by omega))]
    have h1 : ((n : Int) != m) = true := by rw [bne_iff_ne]; omega
    clear hla hlb ha hb
    go_enter Try.func41, Try.ntmps41
    go_wp2
    go_ret
    exact ⟨rfl, 0, rfl⟩
  · subst h
    have HA := Lib.hid hla
    have HB := Lib.hid hlb
    clear hla hlb
    have hz : digs x = digs y → x = y := fun e => by
      have := congrArg val e
      rwa [val_digs, val_digs] at this
    generalize hax : digs x = a at *
    generalize hby : digs y = b at *
    have hvx : val a = x := by rw [← hax, val_digs]
    have hvy : val b = y := by rw [← hby, val_digs]
    have HVX := Lib.hid hvx
    have HVY := Lib.hid hvy
    have HZ := Lib.hid hz
    clear hax hby hvx hvy hz
    go_enter Try.func41, Try.ntmps41
    go_wp2
    go_loopw [5] (fun i wr => CmpRel w n a b i wr) (fun i _ => (intOf i + 1).toNat)
    case atStart => exact ⟨n, Nat.le_refl _, rfl, by rw [List.drop_of_length_le (by rw [HA.out]; exact Nat.le_refl _), List.drop_of_length_le (by rw [HB.out]; exact Nat.le_refl _)], 0, rfl⟩
    case round =>
      obtain ⟨k, hk, rfl, hd, j, rfl⟩ := hrel
      rcases k with _ | k
      · have he : cmpN x y = 0 := cmpN_eq (HZ.out (by simpa using hd))
        have HE := Lib.hid he
        clear he hd
        go_wp2
        go_ret
        rw [HE.out]
        exact ⟨rfl, j, rfl⟩
      · rw [show ((k + 1 : Nat) : Int) - 1 = k from by omega]
        obtain ⟨g, rfl, hg, hc⟩ := ha.cells (by omega)
        obtain ⟨g', rfl, hg', hc'⟩ := hb.cells (by omega)
        have q1 := hc k (by omega)
        have q2 := hc' k (by omega)
        have ka : k < a.length := by rw [HA.out]; omega
        have kb : k < b.length := by rw [HB.out]; omega
        have L1 := Lib.hid (fun h => cmpN_lt (x := x) (y := y) (by rw [← HVX.out, ← HVY.out]; exact cmp_lt ha.dig hb.dig ka kb hd h))
        have L2 := Lib.hid (fun h => cmpN_gt (x := x) (y := y) (by rw [← HVX.out, ← HVY.out]; exact cmp_lt hb.dig ha.dig kb ka hd.symm h))
        have L3 := Lib.hid (cmp_step ka kb hd)
        have b1 := ha.dig.getD k
        have b2 := hb.dig.getD k
        clear hc hc' hd ka kb
        generalize a.getD k 0 = p at *
        generalize b.getD k 0 = q at *
        rcases Nat.lt_trichotomy p q with h | h | h
        · have HE := Lib.hid (L1.out h)
          have hki : (k : Int) < n := by omega
          go_wp2_with fail
          go_quiet (fail)
          go_wp2
          go_ret
          rw [HE.out]
          exact ⟨rfl, j + nq, World.drewN_drewN _ _ _⟩
        · subst h
          have hki : (k : Int) < n := by omega
          go_wp2_with fail
          go_quiet (fail)
          go_wp2_with fail
          go_quiet (fail)
          go_wp2
          go_roundw
          case rel => exact ⟨k, by omega, rfl, L3.out trivial, _, rfl⟩
          case measure => simp only [intOf]; omega
        · have HE := Lib.hid (L2.out h)
          have hki : (k : Int) < n := by omega
          go_wp2_with fail
          go_quiet (fail)
          go_wp2_with fail
          go_quiet (fail)
          go_wp2
          go_ret
          rw [HE.out]
          exact ⟨rfl, _, by rw [World.drewN_drewN, World.drewN_drewN]⟩
  · rw [cmpN_gt (lt_of_len_lt (by omega))]
    have h1 : ((n : Int) != m) = true := by rw [bne_iff_ne]; omega
    clear hla hlb ha hb
    go_enter Try.func41, Try.ntmps41
    go_wp2
    go_ret
    exact ⟨rfl, 0, rfl⟩
end Go.Proofs.Ytnopgdheffnfdaa
