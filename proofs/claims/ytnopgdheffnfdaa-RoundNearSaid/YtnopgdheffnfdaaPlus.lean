/- The calls plus and minus on digits: the sum's digits, the difference's digits, in new memory. -/
import Derived.Test.YtnopgdheffnfdaaRep
import Derived.OwnWalk
import Derived.Maps.AppendAt
import Derived.Laws.OwnMore
namespace Go.Proofs.Ytnopgdheffnfdaa
open Go.RowKit

def ints (l : List Nat) : List Value := l.map fun (d : Nat) => Value.int .i64 (d : Int)
theorem ints_length (l : List Nat) : (ints l).length = l.length := by simp [ints]
theorem ints_snoc (l : List Nat) (d : Nat) (x : Int) (h : x = d) : ints l ++ [Value.int .i64 x] = ints (l ++ [d]) := by subst h; simp [ints]
theorem int_eq {k : IntKind} {a b : Int} (h : a = b) : Value.int k a = Value.int k b := by rw [h]
theorem int_info : (Try.prog.info? 3).map (fun i => (i.zero, i.size, i.bytes)) = some (some (.int .i64 0), 1, 8) := by kernel_rfl

/-- A row of the call's own reads as digits. -/
theorem Ds.of_own {w : World} {base : Nat} {e : TypeId} {v : Value} {n : Nat} {l : List Nat} (h : w.ownsRow base e 1 v n (ints l)) (hd : Dig l) : ∃ A c, v = .slice A n c ∧ Ds w A n c l := by
  have hl : l.length = n := by have := h.1; rw [ints_length, Nat.mul_one] at this; exact this
  rcases h.2 with ⟨rfl, rfl⟩ | ⟨g, cap, cur, rfl, _, hh, hnc, hm, _, _⟩
  · obtain rfl : l = [] := List.eq_nil_of_length_eq_zero hl
    exact ⟨none, 0, rfl, Ds.nil w⟩
  · refine ⟨_, _, rfl, ⟨hl, hnc, hm, hd, fun _ => ⟨g, rfl, (h.lt g rfl).2, fun j hj => ?_⟩⟩⟩
    have := h.cells (g := g) rfl j (.int .i64 (l.getD j 0 : Nat)) (by simp [ints, show j < l.length from by omega])
    have ea : ((⟨g, 0, none⟩ : Addr).add j) = ⟨g, j, none⟩ := by unfold Addr.add; split <;> simp_all
    rw [ea] at this
    exact this

/-- What a call that answers digits leaves. -/
def RetDs (w : World) (x K : Nat) (e : Ending) (w' : World) : Prop :=
  ∃ C k f l, e = .returned (.slice C k f) ∧ Ds w' C k f l ∧ val l = x ∧ k ≤ K ∧ Below w.heap.size w w'

/-- What holds at the head of a round of plus. -/
def PlusRel (w : World) (M : Nat) (a b : List Nat) (v cr i : Value) (wr : World) : Prop :=
  ∃ (out : List Nat) (c k : Nat), wr.ownsRow w.heap.size 3 1 v k (ints out) ∧ cr = .int .i64 c ∧ i = .int .i64 k ∧ out.length = k ∧ Dig out ∧ c ≤ 1 ∧ k ≤ M + 1 ∧ (M < k → c = 0) ∧
    val out + c * 65536 ^ k = val (a.take k) + val (b.take k) ∧ Below w.heap.size w wr

set_option maxHeartbeats 1000000 in
theorem plus_any (A B : Option Addr) (n m c d : Nat) (a b : List Nat) (w : World) (ha : Ds w A n c a) (hb : Ds w B m d b) (M : Nat) (hn : n ≤ M) (hm : m ≤ M) (hM : M ≤ 999999) :
    Calls Try.prog 40 #[.slice A n c, .slice B m d] w (RetDs w (val a + val b) (M + 1)) := by
  obtain ⟨i0, hi, hz0, hz1, hz2⟩ := info_parts int_info
  go_enter Try.func40, Try.ntmps40
  go_wp2
  go_loopw [5, 6, 7] (fun v cr i wr => PlusRel w M a b v cr i wr) (fun _ cr i _ => 2 * (M - (intOf i).toNat) + (intOf cr).toNat)
  case atStart => exact ⟨[], 0, 0, World.ownsRow_nil w _ _ _, rfl, rfl, rfl, Dig.nil, by omega, by omega, fun h => rfl, by simp [val], Below.refl _ _⟩
  case round =>
    obtain ⟨out, cy, k, hown, rfl, rfl, hl, hdo, hc1, hk, hkc, hv, hbel⟩ := hrel
    have hlt := hown.lt
    have hsz := hbel.size
    have x1 := ha.dig.getD k
    have y1 := hb.dig.getD k
    have C1 := digit_any A n c a k wr (ha.below hbel) (by omega) (by omega)
    have C2 := digit_any B m d b k wr (hb.below hbel) (by omega) (by omega)
    obtain ⟨hs1, hs2, hs3⟩ := plus_step ha.dig hb.dig hdo hl hc1 hv
    have HV := Lib.hid hv
    have HL := Lib.hid hl
    clear hv hl
    generalize hx : a.getD k 0 = x at *
    generalize hy : b.getD k 0 = y at *
    have HX := Lib.hid hx
    have HY := Lib.hid hy
    have HS := Lib.hid hs3
    clear hx hy hs3
    have C1' := Lib.hid C1
    have C2' := Lib.hid C2
    clear C1 C2
    have hcase : k < n ∨ (¬ k < n ∧ k < m) ∨ (¬ k < n ∧ ¬ k < m ∧ 0 < cy) ∨ (¬ k < n ∧ ¬ k < m ∧ cy = 0) := by omega
    rcases hcase with h1 | ⟨h1, h2⟩ | ⟨h1, h2, h3⟩ | ⟨h1, h2, rfl⟩
    case inr.inr.inr =>
      go_wp2
      obtain ⟨C, f, rfl, hD⟩ := Ds.of_own hown hdo
      go_ret
      refine ⟨C, k, f, out, rfl, hD, ?_, hk, hbel⟩
      have e := HV.out
      rw [List.take_of_length_le (by rw [ha.len]; omega), List.take_of_length_le (by rw [hb.len]; omega)] at e
      omega
    all_goals
      have hk' : k ≤ M := by omega
      go_wp2_with fail
      refine C1'.out.mono ?_; rintro e w' ⟨rfl, rfl⟩
      go_wp2_with fail
      refine C2'.out.mono ?_; rintro e w' ⟨rfl, rfl⟩
      go_wp2_with (at_builtin
                   refine wpList_append_own_at _ rfl (.tmp 34) (.tmp 37) 36 rfl w.heap.size 3 i0 _ 1 8 Try.underlying36 hi hz0 hz1 hz2 rfl (by decide) u5 k (ints out) rfl (hown.alloc _) ⟨wr.heap.size, 0, none⟩ 1 1 [.int .i64 (((x : Int) + y + cy) % 65536)] rfl rfl (cell_one_new _ _ _) ?_ ?_ ?_ ?_ ?_
                   · intro u hu; rw [List.mem_singleton.1 hu]; rfl
                   · unfold maxLen; omega
                   · omega
                   · simp; omega
                   intro v1 w1 hown1 hg1 _ _)
      go_roundw
      case rel =>
        refine ⟨out ++ [(x + y + cy) % 65536], (x + y + cy) / 65536, k + 1, ?_, int_eq (by omega), int_eq (by omega), by rw [List.length_append, HL.out]; rfl, hs1, hs2, by omega, fun hM1 => ?_, HS.out, ?_⟩
        · rw [ints_snoc out ((x + y + cy) % 65536) _ (by omega)] at hown1
          exact hown1
        · have e1 : x = 0 := by rw [← HX.out, List.getD_eq_getElem?_getD, List.getElem?_eq_none (by rw [ha.len]; omega)]; rfl
          have e2 : y = 0 := by rw [← HY.out, List.getD_eq_getElem?_getD, List.getElem?_eq_none (by rw [hb.len]; omega)]; rfl
          omega
        · exact (hbel.alloc hsz _).grown hg1 (by simp; omega) (fun q hq => (hlt q hq).1)
      case measure =>
        have e1 : n ≤ k → x = 0 := fun h => by rw [← HX.out, List.getD_eq_getElem?_getD, List.getElem?_eq_none (by rw [ha.len]; omega)]; rfl
        have e2 : m ≤ k → y = 0 := fun h => by rw [← HY.out, List.getD_eq_getElem?_getD, List.getElem?_eq_none (by rw [hb.len]; omega)]; rfl
        simp only [intOf]
        omega
end Go.Proofs.Ytnopgdheffnfdaa
