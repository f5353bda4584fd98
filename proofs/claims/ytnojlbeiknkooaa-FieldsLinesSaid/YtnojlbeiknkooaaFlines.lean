/- Package fields: a text cut into lines, walked: an iterator, and the loop over it. -/
import Derived.RangeFuncNested
import Derived.RangeFuncBound
import Derived.RangeFuncCalls
import Derived.RangeFuncLeaves
import Derived.RangeFuncBox
import Derived.Shelf.Abstract
import Derived.Shelf.RegionOpen
import Derived.WalkKit
import Derived.OwnWalkIn
import Derived.TacticsInMore
import Derived.LoopNIn
import Derived.LoopIn
import Derived.Maps.AppendAt
import Derived.Test.YtnojlbeiknkooaaFcut
import Derived.Test.YtnojlbeiknkooaaFsplit
import Derived.Test.YtnojlbeiknkooaaSalive
namespace Go.Proofs.Ytnojlbeiknkooaa
open Go.RowKit Go.Shelf
attribute [local go_sem] Oper.semAt_some
abbrev Line : Type := { t : ByteArray // t.size ≤ 1000000 }
def bytesOf (l : List Line) : List ByteArray := l.map (·.1)
theorem bytes_snoc (l : List Line) (x : Line) : bytesOf (l ++ [x]) = bytesOf l ++ [x.1] := by simp [bytesOf]
theorem bytes_length (l : List Line) : (bytesOf l).length = l.length := by simp [bytesOf]
theorem grown_drawn (w : World) (n : Nat) : w.grownBy (w.drewN n) none := ⟨rfl, rfl, rfl, Nat.le_refl _, fun _ _ _ => rfl⟩
theorem lns_count {s : ByteArray} : ∀ (d a : Nat), s.size - a ≤ d → a ≤ s.size → (lnsFrom s a a).length ≤ s.size - a := by
  intro d
  induction d with
  | zero => intro a hd ha; rw [lns_end (by omega), if_neg (by omega)]; exact Nat.zero_le _
  | succ d ih =>
    intro a hd ha
    by_cases h : a < s.size
    · obtain ⟨b, b1, b2, b3, _⟩ := rest_cut h
      rw [b3]
      have := ih b (by omega) b2
      simp only [List.length_cons]
      omega
    · rw [lns_end h, if_neg (by omega)]; exact Nat.zero_le _
set_option maxRecDepth 100000 in
set_option maxHeartbeats 4000000 in
theorem iter_in (n : Nat) (hn : 1 ≤ n) (l Bn : Nat) (s : ByteArray) (hs : s.size ≤ 1000000) (J Jx : List Line → World → Prop)
    (W : World) (hJ : AbidesFrom W.heap.size J)
    (hY : ∀ pre x W1, J pre W1 → pre.length < s.size → YieldAt Fence.wide (n - 1) Try.prog l #[.string x.1] W1 fun e W' =>
      (e = .returned (.bool true) ∧ J (pre ++ [x]) W' ∧ KeepsWalks W1 W') ∨ (e = .returned (.bool false) ∧ Jx (pre ++ [x]) W'))
    (hBn : W.cell? ⟨Bn, 0, none⟩ = some (.string s)) (h0 : J [] W) :
    CallsIn Fence.wide n Try.prog 32 #[.func (.yield l) #[] #[], .pointer (some ⟨Bn, 0, none⟩)] W fun e W' => (∃ v, e = .returned v) ∧
      ((∃ ys, bytesOf ys = lnsFrom s 0 0 ∧ J ys W') ∨ (∃ pre, True ∧ Jx pre W')) := by
  refine callsIn_of_wp Try.func32 rfl trivial ?_ rfl
  simp only [Try.ntmps32, List.size_toArray, List.length_cons, List.length_nil, Nat.reduceAdd, Nat.reduceSub, Array.replicate_succ, Array.replicate_zero, List.push_toArray, List.append_toArray, List.nil_append, List.cons_append]
  gi_wp2
  gi_loopw [3] (fun p wr => ∃ (pre : List Line) (a : Nat), a ≤ s.size ∧ p = .string (s.extract a s.size) ∧ bytesOf pre ++ lnsFrom s a a = lnsFrom s 0 0 ∧ pre.length ≤ a ∧ J pre wr) (fun p _ => match p with | .string r => r.size | _ => 0)
  case atStart => exact ⟨[], 0, Nat.zero_le _, by simp, rfl, Nat.zero_le _, h0⟩
  case round =>
    obtain ⟨pre, a, ha, rfl, hx, hp, hJs⟩ := hrel
    have szr : (s.extract a s.size).size = s.size - a := by simp
    by_cases h : a < s.size
    · obtain ⟨b, b1, b2, b3, b4, b5⟩ := rest_cut h
      have ne2 : ¬ (s.extract a s.size).toList = [] := ne_toList (by omega)
      have ne : (s.extract a s.size).toList.isEmpty = false := List.isEmpty_eq_false_iff.2 ne2
      have CW := Lib.hid (fun w => callsIn_wide.2 (cutP (s.extract a s.size) (by omega) w) : ∀ w, CallsIn Fence.wide (n - 1) Try.prog 33 #[.string (s.extract a s.size), .string ⟨#[10]⟩] w (RetCut w (s.extract a s.size)))
      have HX := Lib.hid (hx.symm.trans (by rw [b3]))
      clear hx b3
      have SB : (s.extract b s.size).size = s.size - b := by simp
      rw [← b4] at SB
      have B4 := Lib.hid b4
      clear b4
      unfold RetCut at CW
      generalize cutA (s.extract a s.size) = u at *
      generalize cutB (s.extract a s.size) = v at *
      generalize cutF (s.extract a s.size) = f at *
      generalize s.extract a s.size = r at *
      gi_wp2_with (refine ⟨trivial, ?_⟩; gi_at_call 33; refine (CW.out _).mono ?_; clear CW; rintro e w' ⟨rfl, m, rfl⟩; have hJm := hJ _ _ (wr.drewN m) none hJs (grown_drawn wr m) (fun r c => by cases c); obtain ⟨fn, tmps, assign, body, hy, hR⟩ := hY pre ⟨u, by omega⟩ (wr.drewN m) hJm (by omega); dsimp only at hy)
      refine hR.mono ?_
      rintro e W3 (⟨rfl, hJ3, hk3⟩ | ⟨rfl, hJx3⟩)
      · gi_wp2
        go_roundw
        case rel => exact ⟨pre ++ [⟨u, by omega⟩], b, b2, by rw [B4.out], by rw [bytes_snoc, List.append_assoc]; exact HX.out.symm, by simp; omega, hJ3⟩
        case measure => simp only []; omega
      · gi_wp2
        refine bodyPost_ret (results_none rfl _ _ _) rfl ?_
        exact ⟨⟨_, rfl⟩, .inr ⟨_, trivial, hJx3⟩⟩
    · have e0 : s.extract a s.size = ⟨#[]⟩ := empty_is (by omega)
      have HX := Lib.hid (show bytesOf pre = lnsFrom s 0 0 by rw [← hx, lns_end h, if_neg h, List.append_nil])
      rw [e0]
      clear hx e0 szr
      gi_wp2
      go_end0
      exact ⟨⟨_, rfl⟩, .inl ⟨pre, HX.out, hJs⟩⟩
theorem box_below {W W' : World} {B : Nat} {t : TypeId} {v : Value} (h : Boxed W B t v) (b : Below W.heap.size W W') : Boxed W' B t v := (b.block B h.lt).trans h
theorem others_below {W W' : World} (b : Below W.heap.size W W') : KeepsOthers W W' := ⟨b.size, fun k _ h _ => (b.block k (Array.getElem?_eq_some_iff.1 h).1).trans h⟩
theorem iter_made (n : Nat) (s : ByteArray) (w : World) :
    CallsIn Fence.wide n Try.prog 18 #[.string s] w fun e w' => e = .returned (.func (.func 32) #[] #[.pointer (some ⟨w.heap.size, 0, none⟩)]) ∧ w' = w.alloc (.cells #[.string s] 9) := by
  refine callsIn_of_wp Try.func18 rfl trivial ?_ rfl
  simp only [Try.ntmps18, List.size_toArray, List.length_cons, List.length_nil, Nat.reduceAdd, Nat.reduceSub, Array.replicate_succ, Array.replicate_zero, List.push_toArray, List.append_toArray, List.nil_append, List.cons_append]
  gi_wp2
  go_ret
  exact ⟨rfl, rfl⟩
theorem iter_stops (n : Nat) (hn : 1 ≤ n) (Bn : Nat) (s : ByteArray) (hs : s.size ≤ 1000000) (w : World) (hBn : Bn < w.heap.size) (hc : w.cell? ⟨Bn, 0, none⟩ = some (.string s)) :
    SeqStopsK Fence.wide n Try.prog 32 #[.pointer (some ⟨Bn, 0, none⟩)] (fun x : Line => #[Value.string x.1]) KeepsWalks (fun ys => bytesOf ys = lnsFrom s 0 0) (fun _ => True) s.size w := fun l J Jx W hW hJ _ hY h0 =>
  iter_in n hn l Bn s hs J Jx W hJ hY ((hW.cell (p := ⟨Bn, 0, none⟩) hBn).trans hc) h0
set_option maxRecDepth 100000 in
set_option maxHeartbeats 4000000 in
theorem linesP (s : ByteArray) (hs : s.size ≤ 1000000) (w : World) : Calls Try.prog 10 #[.string s] w (RetSs w (lnsFrom s 0 0)) := by
  refine (callsIn_wide (n := 5)).1 ?_
  obtain ⟨i0, hi, hz0, hz1, hz2⟩ := info_partsS str_info
  refine callsIn_of_wp_marks Try.func10 rfl trivial ?_ rfl
  simp only [Try.ntmps10, List.size_toArray, List.length_cons, List.length_nil, Nat.reduceAdd, Nat.reduceSub, Array.replicate_succ, Array.replicate_zero, List.push_toArray, List.append_toArray, List.nil_append, List.cons_append]
  gi_wp2_with (refine ⟨trivial, ?_⟩; gi_at_call 18; refine (iter_made _ _ _).mono ?_; rintro e w' ⟨rfl, rfl⟩)
  have bO := Boxed.new w 24 (.slice none 0 0)
  have bN := Boxed.new (w.alloc (.cells #[.slice none 0 0] 24)) 9 (.string s)
  rw [World.size_alloc] at bN
  have hB0 : Below w.heap.size w ((w.alloc (.cells #[.slice none 0 0] 24)).alloc (.cells #[.string s] 9)) := ((Below.refl _ w).alloc (Nat.le_refl _) _).alloc (by simp) _
  refine wpIn_rangeFunc_ownG (n := 5) rfl (by omega) (gf := 32) (lb := #[.pointer (some ⟨w.heap.size + 1, 0, none⟩)]) rfl trivial (enters_of Try.func32 (by kernel_rfl) rfl)
    (iter_stops (5 - 1) (by omega) (w.heap.size + 1) s hs _ (by simp) bN.cell) walksK_t walksK_b (Below.refl _ _) (fun _ => rfl)
    (fun pre W => (∃ v, Boxed W w.heap.size 24 v ∧ W.ownsRow w.heap.size 9 1 v pre.length (strs (bytesOf pre)) ∧ True) ∧ Below w.heap.size w W)
    (fun _ _ _ => False)
    (OwnFrom.and (Own.from (holdsRow_own w.heap.size w.heap.size 24 9 1 (fun pre : List Line => pre.length) (fun pre => strs (bytesOf pre)) (fun _ _ => True)) _) (ownFrom_below (Nat.le_refl _) (by simp; omega)))
    (fun _ _ _ _ _ hs _ _ => hs)
    ⟨⟨_, bO.alloc _, World.ownsRow_nil _ _ _ _, trivial⟩, hB0⟩
    (fun x => { tmps := #[.string s, undef, .slice none 0 0, .pointer (some ⟨w.heap.size, 0, none⟩), .string x.1, .string s, .func (.func 32) #[] #[.pointer (some ⟨w.heap.size + 1, 0, none⟩)], .string x.1, undef, undef, undef, undef, undef, undef], defers := [] }) ?assign ?body ?done ?stop
  case assign =>
    intro l x W K hK
    gi_wp2
    exact hK
  case body =>
    rintro l pre ⟨x, hxs⟩ W ⟨⟨v, hv, hrow, _⟩, hB⟩ hlt
    have hc := hv.cell
    dsimp only at hlt ⊢
    have CW := Lib.hid (fun w => callsIn_wide.2 (cloneP x (by omega) w) : ∀ w, CallsIn Fence.wide 2 Try.prog 19 #[.string x] w fun e w' => e = .returned (.string x) ∧ Below w.heap.size w w')
    have szB := hB.size
    have mixed : Try.prog.follows Departure.mixedOrders = true := by kernel_rfl
    have hb0 := hv.lt
    gi_wp2_with fail
    gi_region_with_o
      (refine ⟨trivial, ?_⟩
       gi_at_call 19
       refine (CallsIn.inRound l (CW.out _)).mono ?_
       rintro e w1 ⟨rfl, hb1⟩
       have hbW : Below W.heap.size W w1 := (below_drewN (Below.refl W.heap.size W) 1).trans hb1
       have hv1 := box_below hv hbW
       have hrow1 := own_below hrow hbW
       have sz1 := hbW.size
       obtain ⟨v2, w2, hrun, hown2, hgrow2, _, _⟩ := run_append_own_at (P := Try.prog) (w := w1.alloc (.cells #[.string x] 9)) w.heap.size 24 24 9 i0 (.string ⟨#[]⟩) 1 16 Try.underlying24 hi hz0 hz1 hz2 rfl (by decide) v pre.length (strs (bytesOf pre)) (hrow1.alloc _) ⟨w1.heap.size, 0, none⟩ 1 1 [.string x] rfl (cell_one_new _ _ _) (by simp [Value.oneCell']) (by unfold maxLen; omega) (by omega) (by simp; omega)
       obtain ⟨g', cap', rfl⟩ := ownsRow_succ hown2
       obtain ⟨hv2, hv3, hr3, hk3, hb3⟩ := hv1.appended (by decide) hrow1 (by omega) (Nat.le_refl _) hown2 hgrow2
       simp [go_sem] at hrun
       have hc1 := hv1.cell
       have hcA := (hv1.alloc (.cells #[.string x] 9)).cell
       have hc2 := hv2.cell
       have hf2 := hv2.frozen)
    all_goals gi_wp2
    all_goals exact ⟨((others_below hbW).trans hk3).from _, ((others_below hbW).trans hk3).walks, ⟨⟨_, hv3, by simpa [bytes_snoc, ← strs_snoc] using hr3, trivial⟩, (hB.trans (hbW.mono szB)).trans hb3⟩⟩
  case done =>
    rintro D ys W hD hys ⟨⟨v, hv, hrow, _⟩, hB⟩ hK
    have hc := hv.cell
    gi_wp2
    refine ⟨by simp, .inl ⟨_, _, rfl, run_takeDeferred hK, ?_⟩⟩
    rw [hys] at hrow
    obtain ⟨A, c, rfl, hS⟩ := Ss.of_own (ownsRow_putObj hrow (.deferred none) hK rfl)
    exact ⟨_, results_tmp rfl _ _ _, A, _, c, rfl, hS, hB.trans (belowK_b (w := w) (Nat.le_refl _) W D _ _ (by simp at hD; omega) hK rfl rfl)⟩
  case stop =>
    rintro D c pre W _ _ h _
    exact h.elim
end Go.Proofs.Ytnojlbeiknkooaa
