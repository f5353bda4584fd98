/- How a whole number of the document's lies in memory: a slice that reads as a list of digits; a number's sign with the slice of its digits. And the calls digit and tidy. -/
import Derived.Test.YtnopgdheffnfdaaNum
import Derived.Test.YtnopgdheffnfdaaPost
import Derived.IntWalk
import Derived.Lib.Hide
import Derived.LoopTactic
import Derived.Outline
namespace Go.Proofs.Ytnopgdheffnfdaa
open Go.RowKit

/-- The slice value '.slice A n c' reads as the digits l. -/
structure Ds (w : World) (A : Option Addr) (n c : Nat) (l : List Nat) : Prop where
  len : l.length = n
  cap : n ≤ c
  max : c ≤ maxLen
  dig : Dig l
  cells : 0 < n → ∃ g, A = some ⟨g, 0, none⟩ ∧ g < w.heap.size ∧ ∀ j, j < n → w.cell? ⟨g, j, none⟩ = some (.int .i64 (l.getD j 0 : Nat))

theorem Ds.nil (w : World) : Ds w none 0 0 [] := ⟨rfl, Nat.le_refl _, by simp [maxLen], Dig.nil, fun h => absurd h (by omega)⟩
theorem Ds.below {w w' : World} {A : Option Addr} {n c : Nat} {l : List Nat} (h : Ds w A n c l) (hb : Below w.heap.size w w') : Ds w' A n c l :=
  ⟨h.len, h.cap, h.max, h.dig, fun hn => by
    obtain ⟨g, e, hg, hc⟩ := h.cells hn
    exact ⟨g, e, Nat.lt_of_lt_of_le hg hb.size, fun j hj => (hb.cell (p := ⟨g, j, none⟩) hg).trans (hc j hj)⟩⟩
theorem Ds.alloc {w : World} {A : Option Addr} {n c : Nat} {l : List Nat} (h : Ds w A n c l) (o : Obj) : Ds (w.alloc o) A n c l := h.below ((Below.refl _ _).alloc (Nat.le_refl _) o)
theorem Ds.take {w : World} {A : Option Addr} {n c : Nat} {l : List Nat} (h : Ds w A n c l) {k : Nat} (hk : k ≤ n) : Ds w A k c (l.take k) :=
  ⟨by rw [List.length_take_of_le (by rw [h.len]; exact hk)], Nat.le_trans hk h.cap, h.max, h.dig.take k, fun h0 => by
    obtain ⟨g, e, hg, hc⟩ := h.cells (by omega)
    refine ⟨g, e, hg, fun j hj => ?_⟩
    rw [hc j (by omega)]
    simp [List.getD_eq_getElem?_getD, hj]⟩

/-- A number: its sign and the slice of its digits. -/
structure Zs (w : World) (p : Bool) (A : Option Addr) (n c : Nat) (z : Int) : Prop where
  sign : p = decide (z < 0)
  ds : Ds w A n c (digs z.natAbs)
theorem Zs.below {w w' : World} {p : Bool} {A : Option Addr} {n c : Nat} {z : Int} (h : Zs w p A n c z) (hb : Below w.heap.size w w') : Zs w' p A n c z := ⟨h.sign, h.ds.below hb⟩

/-- What a call that answers a number leaves: that number, and below the old memory's end all as it was. -/
def RetZ (w : World) (z : Int) (e : Ending) (w' : World) : Prop :=
  ∃ p A n c, e = .returned (.agg #[.bool p, .slice A n c]) ∧ Zs w' p A n c z ∧ Below w.heap.size w w'

theorem bcell {B : Nat} {W w1 : World} (hb : Below B W w1) : (∀ b o, b < B → w1.cell? ⟨b, o, none⟩ = W.cell? ⟨b, o, none⟩) ∧ (∀ b o, b < B → w1.frozen? ⟨b, o, none⟩ = W.frozen? ⟨b, o, none⟩) :=
  ⟨fun b o h => hb.cell (p := ⟨b, o, none⟩) h, fun b o h => hb.frozen (p := ⟨b, o, none⟩) h⟩

theorem digit_any (A : Option Addr) (n c : Nat) (l : List Nat) (i : Nat) (w : World) (h : Ds w A n c l) (hn : n ≤ 1000000) (hi : i ≤ 4000000) :
    Calls Try.prog 58 #[.slice A n c, .int .i64 i] w fun e w' => e = .returned (.int .i64 (l.getD i 0 : Nat)) ∧ w = w' := by
  by_cases hlt : i < n
  · obtain ⟨g, rfl, hg, hc⟩ := h.cells (by omega)
    have hcell := hc i hlt
    clear hc h
    go_enter Try.func58, Try.ntmps58
    go_wp2
    go_ret
    exact ⟨rfl, rfl⟩
  · have e : l.getD i 0 = 0 := by
      rw [List.getD_eq_getElem?_getD, List.getElem?_eq_none (by rw [h.len]; omega)]; rfl
    rw [e]
    clear h e
    go_enter Try.func58, Try.ntmps58
    go_wp2
    go_ret
    exact ⟨rfl, rfl⟩

/-- a number of its sign and its size -/
def sgn (p : Bool) (v : Nat) : Int := if p = true then -(v : Int) else v
theorem sgn_abs (p : Bool) (v : Nat) : (sgn p v).natAbs = v := by unfold sgn; split <;> omega
theorem sgn_neg (p : Bool) (v : Nat) (h : v ≠ 0) : p = decide (sgn p v < 0) := by
  unfold sgn
  cases p
  · simp
  · simp; omega
theorem sgn_zero (p : Bool) : sgn p 0 = 0 := by unfold sgn; split <;> rfl

set_option maxHeartbeats 400000 in
theorem tidy_any (p : Bool) (A : Option Addr) (n c : Nat) (l : List Nat) (w : World) (h : Ds w A n c l) (hn : n ≤ 1000000) :
    Calls Try.prog 35 #[.bool p, .slice A n c] w fun e w' => RetZ w (sgn p (val l)) e w' := by
  have hmax := h.cap
  go_enter Try.func35, Try.ntmps35
  go_wp2
  go_loop [5] (fun t => ∃ k : Nat, k ≤ n ∧ t = .int .i64 k ∧ val (l.take k) = val l) (fun t => (intOf t).toNat)
  case atStart => exact ⟨n, Nat.le_refl _, rfl, by rw [List.take_of_length_le (by rw [h.len]; exact Nat.le_refl _)]⟩
  case round =>
    obtain ⟨k, hk, rfl, hv⟩ := hrel
    have HV := Lib.hid hv
    clear hv
    rcases k with _ | k
    · go_wp2
      have e : val l = 0 := HV.out.symm
      rw [e, sgn_zero]
      exact bodyPost_ret (v := .agg #[.bool false, .slice none 0 0]) (by simp [results, Try.results35, go_sem]) rfl ⟨false, none, 0, 0, rfl, ⟨rfl, by rw [show (0 : Int).natAbs = 0 from rfl, digs_zero]; exact Ds.nil _⟩, (Below.refl _ _).alloc (Nat.le_refl _) _⟩
    · have hD := h
      obtain ⟨g, rfl, hg, hc⟩ := h.cells (by omega)
      have hcell := hc k (by omega)
      have hcell' : (w.alloc (.cells #[.bool false, .slice none 0 0] 38)).cell? ⟨g, k, none⟩ = some (.int .i64 (l.getD k 0 : Nat)) := by
        rw [World.cell?_alloc_lt w _ _ hg]; exact hcell
      clear hc h hcell
      by_cases h0 : l.getD k 0 = 0
      · rw [h0] at hcell'
        have H0 := Lib.hid h0
        clear h0
        go_wp2
        go_round
        case rel => exact ⟨k, by omega, by go_num, tidy_step HV.out H0.out⟩
        case measure => simp [intOf]
      · have hfin : l.take (k + 1) = digs (val l) := tidy_end hD.dig (by rw [hD.len]; exact hk) HV.out (fun j hj => by rw [show j = k from by omega]; exact h0)
        have hne : val l ≠ 0 := by
          intro e
          have hl := congrArg List.length hfin
          rw [e, digs_zero, List.length_take_of_le (by rw [hD.len]; exact hk)] at hl
          simp at hl
        have HF := Lib.hid hfin
        have HN := Lib.hid hne
        clear hfin hne
        generalize l.getD k 0 = d at *
        have hb : ((d : Int) == 0) = false := by simpa using h0
        clear h0
        go_wp2
        refine bodyPost_ret (v := .agg #[.bool p, .slice (some ⟨g, 0, none⟩) (k + 1) c]) (by simp [results, Try.results35, go_sem]) rfl ⟨p, _, _, _, rfl, ⟨sgn_neg p _ HN.out, ?_⟩, (Below.refl _ _).alloc (Nat.le_refl _) _⟩
        rw [sgn_abs, ← HF.out]
        exact (hD.take hk).alloc _
end Go.Proofs.Ytnopgdheffnfdaa
