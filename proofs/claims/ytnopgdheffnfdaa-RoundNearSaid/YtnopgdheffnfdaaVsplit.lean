/- Package divide's split: a size divided bit by bit. -/
import Derived.Test.YtnopgdheffnfdaaVbits
import Derived.Test.YtnopgdheffnfdaaWkeep
import Derived.Sort.CutIn
namespace Go.Proofs.Ytnopgdheffnfdaa
open Go.RowKit Go.Shelf
attribute [local go_sem] Oper.semAt_some

/-- What a call that answers two sizes leaves. -/
def RetSS (w : World) (q r : Int) (e : Ending) (w' : World) : Prop := e = .returned (.tuple #[.agg #[.int .u64 (hiW q), .int .u64 (loW q)], .agg #[.int .u64 (hiW r), .int .u64 (loW r)]]) ∧ Below w.heap.size w w'

/-- what stands between two rounds of the division: its variables -/
structure Spl (w : World) (a b q r : Int) (W : World) : Prop where
  pb : Pair W (w.heap.size + 1) (.int .u64 (hiW b)) (.int .u64 (loW b))
  p2 : Pair W (w.heap.size + 1 + 1) (.int .u64 0) (.int .u64 0)
  p3 : Pair W (w.heap.size + 1 + 1 + 1) (.int .u64 0) (.int .u64 0)
  pq : Pair W (w.heap.size + 1 + 1 + 1 + 1) (.int .u64 (hiW q)) (.int .u64 (loW q))
  pr : Pair W (w.heap.size + 1 + 1 + 1 + 1 + 1) (.int .u64 (hiW r)) (.int .u64 (loW r))
  pa : Pair W (w.heap.size + 1 + 1 + 1 + 1 + 1 + 1) (.int .u64 (hiW a)) (.int .u64 (loW a))
  hb : Below w.heap.size w W
section
variable {w W W' : World} {a b q r : Int}
theorem Spl.below (h : Spl w a b q r W) (k : Below W.heap.size W W') : Spl w a b q r W' :=
  ⟨h.pb.below k, h.p2.below k, h.p3.below k, h.pq.below k, h.pr.below k, h.pa.below k, below_thru h.hb k⟩
theorem Spl.drew (h : Spl w a b q r W) : Spl w a b q r W.drew := h.below (Below.refl _ _).drew
theorem Spl.setq (h : Spl w a b q r W) (q' : Int) : Spl w a b q' r ((W.setCell ⟨w.heap.size + 1 + 1 + 1 + 1, 0, none⟩ (.int .u64 (hiW q'))).setCell ⟨w.heap.size + 1 + 1 + 1 + 1, 1, none⟩ (.int .u64 (loW q'))) :=
  ⟨h.pb.far2 (by omega) _ _, h.p2.far2 (by omega) _ _, h.p3.far2 (by omega) _ _, h.pq.self2 _ _, h.pr.far2 (by omega) _ _, h.pa.far2 (by omega) _ _,
    (h.hb.setCell (p := ⟨w.heap.size + 1 + 1 + 1 + 1, 0, none⟩) (by show _ ≤ w.heap.size + 1 + 1 + 1 + 1; omega) _).setCell (p := ⟨w.heap.size + 1 + 1 + 1 + 1, 1, none⟩) (by show _ ≤ w.heap.size + 1 + 1 + 1 + 1; omega) _⟩
theorem Spl.setr (h : Spl w a b q r W) (r' : Int) : Spl w a b q r' ((W.setCell ⟨w.heap.size + 1 + 1 + 1 + 1 + 1, 0, none⟩ (.int .u64 (hiW r'))).setCell ⟨w.heap.size + 1 + 1 + 1 + 1 + 1, 1, none⟩ (.int .u64 (loW r'))) :=
  ⟨h.pb.far2 (by omega) _ _, h.p2.far2 (by omega) _ _, h.p3.far2 (by omega) _ _, h.pq.far2 (by omega) _ _, h.pr.self2 _ _, h.pa.far2 (by omega) _ _,
    (h.hb.setCell (p := ⟨w.heap.size + 1 + 1 + 1 + 1 + 1, 0, none⟩) (by show _ ≤ w.heap.size + 1 + 1 + 1 + 1 + 1; omega) _).setCell (p := ⟨w.heap.size + 1 + 1 + 1 + 1 + 1, 1, none⟩) (by show _ ≤ w.heap.size + 1 + 1 + 1 + 1 + 1; omega) _⟩
end
theorem Spl.start (w : World) (a b : Int) (t : TypeId) : Spl w a b 0 0 (((((((w.alloc (.cells #[.int .u64 (hiW a), .int .u64 (loW a)] t)).alloc (.cells #[.int .u64 (hiW b), .int .u64 (loW b)] t)).alloc (.cells #[.int .u64 0, .int .u64 0] t)).alloc (.cells #[.int .u64 0, .int .u64 0] t)).alloc (.cells #[.int .u64 0, .int .u64 0] t)).alloc (.cells #[.int .u64 0, .int .u64 0] t)).alloc (.cells #[.int .u64 (hiW a), .int .u64 (loW a)] t)) := by
  have e0 : hiW 0 = 0 := rfl
  have e1 : loW 0 = 0 := rfl
  have K := (((((((PairsK.nil w).more (.int .u64 (hiW a)) (.int .u64 (loW a)) t).more (.int .u64 (hiW b)) (.int .u64 (loW b)) t).more (.int .u64 0) (.int .u64 0) t).more (.int .u64 0) (.int .u64 0) t).more (.int .u64 0) (.int .u64 0) t).more (.int .u64 0) (.int .u64 0) t).more (.int .u64 (hiW a)) (.int .u64 (loW a)) t
  simp only [World.size_alloc] at K
  exact ⟨K.tail.tail.tail.tail.tail.head, K.tail.tail.tail.tail.head, K.tail.tail.tail.head, by rw [e0, e1]; exact K.tail.tail.head, by rw [e0, e1]; exact K.tail.head, K.head, K.hb⟩
theorem spl_own (w : World) (a b : Int) (B : Nat) (hB : w.heap.size ≤ B) : OwnFrom B (fun (pre : List Bit) W => Spl w a b (bval pre / b) (bval pre % b) W) := fun _ X _ row h hg hr =>
  have hr' : ∀ r, row = some r → ∃ o : Obj, X.heap[r]? = some o ∧ o.isCells = false := fun r e => (hr r e).2
  ⟨pair_grown h.pb hg hr', pair_grown h.p2 hg hr', pair_grown h.p3 hg hr', pair_grown h.pq hg hr', pair_grown h.pr hg hr', pair_grown h.pa hg hr', h.hb.grown hg h.hb.size (fun k e => Nat.le_trans hB (hr k e).1)⟩

theorem div_step (V b c : Int) (hb : 0 < b) (c0 : 0 ≤ c) (c1 : c ≤ 1) :
    (2 * (V % b) + c < b → (2 * V + c) / b = 2 * (V / b) ∧ (2 * V + c) % b = 2 * (V % b) + c) ∧ (b ≤ 2 * (V % b) + c → (2 * V + c) / b = 2 * (V / b) + 1 ∧ (2 * V + c) % b = 2 * (V % b) + c - b) := by
  have e := Int.mul_ediv_add_emod V b
  have r0 := Int.emod_nonneg V (show b ≠ 0 by omega)
  have r1 := Int.emod_lt_of_pos V hb
  generalize V % b = r at *
  generalize V / b = q at *
  have e2 : b * (2 * q) = 2 * (b * q) := by rw [← Int.mul_assoc, Int.mul_comm b 2, Int.mul_assoc]
  constructor
  · intro h
    exact (Int.ediv_emod_unique hb).2 ⟨by omega, by omega, h⟩
  · intro h
    exact (Int.ediv_emod_unique hb).2 ⟨by rw [Int.mul_add, e2]; omega, by omega, by omega⟩
theorem quo_in {V b : Int} (hb : 0 < b) (h : InS V) : InS (V / b) := ⟨Int.ediv_nonneg h.1 (by omega), Int.lt_of_le_of_lt (Int.ediv_le_self _ h.1) h.2⟩
theorem even_up (q : Int) : hiW (2 * q + 1) = hiW (2 * q) ∧ loW (2 * q + 1) = loW (2 * q) + 1 ∧ loW (2 * q) ≤ 18446744073709551614 := by unfold hiW loW; omega
theorem Pair.self1 {w : World} {b : Nat} {u v : Value} (h : Pair w b u v) (y : Value) : Pair (w.setCell ⟨b, 1, none⟩ y) b u y := by
  refine ⟨by simpa [World.setCell] using h.lt, ?_, ?_, ?_, ?_⟩
  · rw [World.cell?_setCell_other _ _ _ _ (by simp)]
    exact h.c0
  · exact World.cell?_setCell_same _ _ _ h.c1
  · simp [h.f0]
  · simp [h.f1]
theorem Spl.setlo {w W : World} {a b q r : Int} (h : Spl w a b (2 * q) r W) : Spl w a b (2 * q + 1) r (W.setCell ⟨w.heap.size + 1 + 1 + 1 + 1, 1, none⟩ (.int .u64 (loW (2 * q) + 1))) :=
  ⟨h.pb.far (by omega) _ _, h.p2.far (by omega) _ _, h.p3.far (by omega) _ _, by rw [(even_up q).1, (even_up q).2.1]; exact h.pq.self1 _, h.pr.far (by omega) _ _, h.pa.far (by omega) _ _,
    h.hb.setCell (p := ⟨w.heap.size + 1 + 1 + 1 + 1, 1, none⟩) (by show _ ≤ w.heap.size + 1 + 1 + 1 + 1; omega) _⟩

set_option maxRecDepth 100000 in
set_option maxHeartbeats 8000000 in
theorem split_any (a b : Int) (ha0 : 0 ≤ a) (ha1 : a ≤ 170141183460469231731687303715884105728) (hb0 : 0 < b) (hb1 : b ≤ 170141183460469231731687303715884105728) (w : World) :
    Calls Try.prog 61 #[.agg #[.int .u64 (hiW a), .int .u64 (loW a)], .agg #[.int .u64 (hiW b), .int .u64 (loW b)]] w (RetSS w (a / b) (a % b)) := by
  have IA : InS a := ⟨ha0, by omega⟩
  have S0 := Spl.start w a b 74
  have HS0 := Lib.hid S0
  clear S0
  refine (callsIn_wide (n := 5)).1 ?_
  refine callsIn_of_wp_marks Try.func61 rfl trivial ?_ rfl
  simp only [Try.ntmps61, List.size_toArray, List.length_cons, List.length_nil, Nat.reduceAdd, Nat.reduceSub, Array.replicate_succ, Array.replicate_zero, List.push_toArray, List.append_toArray, List.nil_append, List.cons_append]
  gi_wp2_with (refine ⟨trivial, ?_⟩; gi_at_call 67; (with_reducible refine (callsIn_wide.2 (fromHighest_any _ _ _)).mono ?_); rintro e w' ⟨rfl, rfl⟩)
  have S0 := HS0.out
  clear HS0
  have hsz : w.heap.size + 1 + 1 + 1 + 1 + 1 + 1 < (((((((w.alloc (.cells #[.int .u64 (hiW a), .int .u64 (loW a)] 74)).alloc (.cells #[.int .u64 (hiW b), .int .u64 (loW b)] 74)).alloc (.cells #[.int .u64 0, .int .u64 0] 74)).alloc (.cells #[.int .u64 0, .int .u64 0] 74)).alloc (.cells #[.int .u64 0, .int .u64 0] 74)).alloc (.cells #[.int .u64 0, .int .u64 0] 74)).alloc (.cells #[.int .u64 (hiW a), .int .u64 (loW a)] 74)).heap.size := S0.pa.lt
  generalize (((((((w.alloc (.cells #[.int .u64 (hiW a), .int .u64 (loW a)] 74)).alloc (.cells #[.int .u64 (hiW b), .int .u64 (loW b)] 74)).alloc (.cells #[.int .u64 0, .int .u64 0] 74)).alloc (.cells #[.int .u64 0, .int .u64 0] 74)).alloc (.cells #[.int .u64 0, .int .u64 0] 74)).alloc (.cells #[.int .u64 0, .int .u64 0] 74)).alloc (.cells #[.int .u64 (hiW a), .int .u64 (loW a)] 74)) = w0 at *
  refine wpIn_rangeFunc_ownF rfl (by omega) (gf := 71) (lb := #[.pointer (some ⟨w.heap.size + 1 + 1 + 1 + 1 + 1 + 1, 0, none⟩)]) rfl trivial (enters_of Try.func71 (by kernel_rfl) rfl)
    (bits_stops _ (w.heap.size + 1 + 1 + 1 + 1 + 1 + 1) (by omega) a IA w0 S0.pa) (fun h k => keptP_t h k) (fun W l o o' _ h hc _ => keptP_b W l o o' h hc) (Below.refl _ _) (fun _ => rfl)
    (fun pre W => Spl w a b (bval pre / b) (bval pre % b) W) (fun _ _ _ => False) (spl_own w a b _ (by omega)) (fun _ _ _ _ _ hs _ _ => hs)
    (by simpa [bval_nil] using S0)
    (fun x => { tmps := #[.agg #[.int .u64 (hiW a), .int .u64 (loW a)], .agg #[.int .u64 (hiW b), .int .u64 (loW b)], .pointer (some ⟨w.heap.size, 0, none⟩), .pointer (some ⟨w.heap.size + 1, 0, none⟩), .pointer (some ⟨w.heap.size + 1 + 1, 0, none⟩), .pointer (some ⟨w.heap.size + 1 + 1 + 1, 0, none⟩), .pointer (some ⟨w.heap.size + 1 + 1 + 1 + 1, 0, none⟩), .pointer (some ⟨w.heap.size + 1 + 1 + 1 + 1 + 1, 0, none⟩), .int .u64 x.1, .agg #[.int .u64 (hiW a), .int .u64 (loW a)], .func (.func 71) #[] #[.pointer (some ⟨w.heap.size + 1 + 1 + 1 + 1 + 1 + 1, 0, none⟩)], .int .u64 x.1, undef, undef, undef, undef, undef, undef, undef, undef, undef, undef, undef, undef, undef, undef, undef, undef, undef, undef], defers := [] }) ?assign ?body ?done ?stop
  case assign =>
    intro l x W K hK
    gi_wp2
    exact hK
  case body =>
    rintro l pre x W hS hlen
    have hd : 1 ≤ 5 - 1 - 1 := by omega
    have hmx : Try.prog.follows .mixedOrders = true := by kernel_rfl
    obtain ⟨c, c0, c1⟩ := x
    have iv := bval_in (pre ++ [⟨c, c0, c1⟩]) (by simp; omega)
    have iq := quo_in hb0 iv
    rw [bval_snoc] at iv iq
    obtain ⟨hs1, hs2⟩ := div_step (bval pre) b c hb0 c0 c1
    have hf : bval (pre ++ [⟨c, c0, c1⟩]) / b = (2 * bval pre + c) / b ∧ bval (pre ++ [⟨c, c0, c1⟩]) % b = (2 * bval pre + c) % b := by rw [bval_snoc]; exact ⟨rfl, rfl⟩
    dsimp only at iv iq hs1 hs2 ⊢
    have HF := Lib.hid hf
    clear hf
    have r0 := Int.emod_nonneg (bval pre) (show b ≠ 0 by omega)
    have r1 := Int.emod_lt_of_pos (bval pre) hb0
    have q0 := Int.ediv_nonneg (bval_in pre (by omega)).1 (Int.le_of_lt hb0)
    generalize (2 * bval pre + c) / b = Q' at *
    generalize (2 * bval pre + c) % b = R' at *
    generalize bval pre / b = q at *
    generalize bval pre % b = r at *
    have iQ : InS (2 * q) ∧ InS q := by
      unfold InS at iq ⊢
      by_cases h : 2 * r + c < b
      · have := hs1 h; omega
      · have := hs2 (by omega); omega
    have iR : InS r ∧ InS (2 * r + c) ∧ InS b := by unfold InS; omega
    have T1 := Lib.hid (fun W => show Calls Try.prog 68 #[.agg #[.int .u64 (hiW q), .int .u64 (loW q)], .int .u64 0] W (RetSz W (2 * q)) by have := twice_any q 0 iQ.2 (by rw [Int.add_zero]; exact iQ.1) (by decide) (by decide) W; rwa [Int.add_zero] at this)
    have T2 := Lib.hid (fun W => twice_any r c iR.1 iR.2.1 c0 c1 W)
    have LS := Lib.hid (fun W => less_any (2 * r + c) b iR.2.1 iR.2.2 W)
    have WO := Lib.hid (fun h W => without_any (2 * r + c) b iR.2.1 iR.2.2 h W)
    have EV := Lib.hid (even_up q)
    have HD := Lib.hid (And.intro hs1 hs2)
    clear iv iq hs1 hs2 iQ iR r0 r1 q0 hlen
    generalize hR : 2 * r + c = R at *
    have HR := Lib.hid hR
    clear hR
    obtain ⟨_, x0, x1, _, _⟩ := id hS.pq
    obtain ⟨_, x2, x3, _, _⟩ := id hS.pr
    gi_wp2
    gi_cut [] from 12 (fun wx => Spl w a b (2 * q) R wx ∧ KeepsOthers W wx)
    case first =>
      gi_region_with_o (first
        | (refine ⟨trivial, ?_⟩; gi_at_call 68; (with_reducible refine (CallsIn.inRound l (callsIn_wide.2 (T1.out _))).mono ?_); rintro e W2 ⟨rfl, k⟩
           have s2 := hS.drew.below k
           have o2 := (KeepsOthers.drew W).trans (others_of_below k)
           clear k
           obtain ⟨_, y0, y1, y2, y3⟩ := id s2.pr)
        | (refine ⟨trivial, ?_⟩; gi_at_call 68; (with_reducible refine (CallsIn.inRound l (callsIn_wide.2 (T2.out _))).mono ?_); rintro e W3 ⟨rfl, k⟩
           have s3 := s2.below k
           have o3 := o2.trans (others_of_below k)
           clear k
           obtain ⟨_, z0, z1, z2, z3⟩ := id s3.pq
           obtain ⟨_, z4, z5, z6, z7⟩ := id s3.pr))
      all_goals gi_wp2
      all_goals gi_meet
      all_goals exact ⟨(s3.setq _).setr _, (((o3.trans (KeepsOthers.setCell _ _ _)).trans (KeepsOthers.setCell _ _ _)).trans (KeepsOthers.setCell _ _ _)).trans (KeepsOthers.setCell _ _ _)⟩
    case rest =>
      obtain ⟨sc, oc⟩ := hcut
      clear x0 x1 x2 x3 T1 T2
      obtain ⟨_, x0, x1, x4, x5⟩ := id sc.pq
      obtain ⟨_, x2, x3, x6, x7⟩ := id sc.pr
      obtain ⟨_, y0, y1, _, _⟩ := id sc.pb
      have HS := Lib.hid hS
      clear hS
      by_cases h : R < b
      · have LB := Lib.hid (fun W => show Calls Try.prog 69 #[.agg #[.int .u64 (hiW R), .int .u64 (loW R)], .agg #[.int .u64 (hiW b), .int .u64 (loW b)]] W (RetV W (.bool true)) from by have := LS.out W; rwa [decide_eq_true h] at this)
        obtain ⟨f1, f2⟩ := HD.out.1 h
        have FF := Lib.hid (And.intro f1 f2)
        clear f1 f2 h LS
        gi_wp2_with (refine ⟨trivial, ?_⟩; gi_at_call 69; (with_reducible refine (CallsIn.inRound l (callsIn_wide.2 (LB.out _))).mono ?_); rintro e W2 ⟨rfl, k⟩)
        have s2 := sc.below k
        have o2 := oc.trans (others_of_below k)
        exact ⟨o2, ⟨o2.size, fun _ => s2.pa⟩, by show Spl w a b (bval (pre ++ [⟨c, c0, c1⟩]) / b) (bval (pre ++ [⟨c, c0, c1⟩]) % b) W2; rw [HF.out.1, HF.out.2, FF.out.1, FF.out.2]; exact s2⟩
      · have LB := Lib.hid (fun W => show Calls Try.prog 69 #[.agg #[.int .u64 (hiW R), .int .u64 (loW R)], .agg #[.int .u64 (hiW b), .int .u64 (loW b)]] W (RetV W (.bool false)) from by have := LS.out W; rwa [decide_eq_false h] at this)
        have WB := Lib.hid (fun W => WO.out (by omega) W)
        obtain ⟨f1, f2⟩ := HD.out.2 (by omega)
        have FF := Lib.hid (And.intro f1 f2)
        have ev3 := EV.out.2.2
        have ev0 : 0 ≤ loW (2 * q) := by unfold loW; omega
        clear f1 f2 h LS WO
        gi_wp2_with fail
        refine ⟨trivial, ?_⟩
        refine (CallsIn.inRound l (callsIn_wide.2 (LB.out _))).mono ?_
        rintro e W2 ⟨rfl, k⟩
        have s2 := sc.below k
        have o2 := oc.trans (others_of_below k)
        clear k sc oc x0 x1 x2 x3 x4 x5 x6 x7 y0 y1
        obtain ⟨_, x0, x1, x4, x5⟩ := id s2.pq
        have s3 := s2.setlo
        have o3 := o2.trans (KeepsOthers.setCell W2 ⟨w.heap.size + 1 + 1 + 1 + 1, 1, none⟩ (.int .u64 (loW (2 * q) + 1)))
        obtain ⟨_, x2, x3, _, _⟩ := id s3.pr
        obtain ⟨_, y0, y1, _, _⟩ := id s3.pb
        gi_wp2_with fail
        refine ⟨trivial, ?_⟩
        refine (CallsIn.inRound l (callsIn_wide.2 (WB.out _))).mono ?_
        rintro e W3 ⟨rfl, k⟩
        have s4 := s3.below k
        have o4 := o3.trans (others_of_below k)
        clear k x0 x1 x2 x3 x4 x5 y0 y1 s2 o2 s3 o3
        obtain ⟨_, x0, x1, x4, x5⟩ := id s4.pr
        have s5 := s4.setr (R - b)
        have o5 := (o4.trans (KeepsOthers.setCell W3 ⟨w.heap.size + 1 + 1 + 1 + 1 + 1, 0, none⟩ (.int .u64 (hiW (R - b))))).trans (KeepsOthers.setCell _ ⟨w.heap.size + 1 + 1 + 1 + 1 + 1, 1, none⟩ (.int .u64 (loW (R - b))))
        gi_wp2
        exact ⟨o5, ⟨o5.size, fun _ => s5.pa⟩, by show Spl w a b (bval (pre ++ [⟨c, c0, c1⟩]) / b) (bval (pre ++ [⟨c, c0, c1⟩]) % b) _; rw [HF.out.1, HF.out.2, FF.out.1, FF.out.2]; exact s5⟩
  case done =>
    rintro D ys W hD ⟨hv, _⟩ hS hK
    rw [hv] at hS
    obtain ⟨_, q0, q1, _, _⟩ := id hS.pq
    obtain ⟨_, r0, r1, _, _⟩ := id hS.pr
    obtain ⟨_, c0, c1, c2, c3⟩ := id hS.p2
    obtain ⟨_, d0, d1, d2, d3⟩ := id hS.p3
    have hmx : Try.prog.follows .mixedOrders = true := by kernel_rfl
    have hLL := hS
    have HHS := Lib.hid hS
    clear hLL hS
    have HV := Lib.hid hv
    clear hv
    generalize gA : hiW (a / b) = A at *
    generalize gB : loW (a / b) = B at *
    generalize gC : hiW (a % b) = C at *
    generalize gD : loW (a % b) = D' at *
    have GG := Lib.hid (And.intro gA (And.intro gB (And.intro gC gD)))
    clear gA gB gC gD
    gi_wp2
    gi_region_with_o fail
    all_goals gi_wp2
    all_goals
      have P2 := (((HHS.out.p2.self2 (.int .u64 A) (.int .u64 B)).far2 (b' := w.heap.size + 1 + 1 + 1) (by omega) (.int .u64 C) (.int .u64 D'))).drew
      have P3 := ((HHS.out.p3.far2 (b' := w.heap.size + 1 + 1) (by omega) (.int .u64 A) (.int .u64 B)).self2 (.int .u64 C) (.int .u64 D')).drew
      have HB : Below w.heap.size w (((((W.setCell ⟨w.heap.size + 1 + 1, 0, none⟩ (.int .u64 A)).setCell ⟨w.heap.size + 1 + 1, 1, none⟩ (.int .u64 B)).setCell ⟨w.heap.size + 1 + 1 + 1, 0, none⟩ (.int .u64 C)).setCell ⟨w.heap.size + 1 + 1 + 1, 1, none⟩ (.int .u64 D')).drew) := ((((HHS.out.hb.setCell (p := ⟨w.heap.size + 1 + 1, 0, none⟩) (by show _ ≤ w.heap.size + 1 + 1; omega) (.int .u64 A)).setCell (p := ⟨w.heap.size + 1 + 1, 1, none⟩) (by show _ ≤ w.heap.size + 1 + 1; omega) (.int .u64 B)).setCell (p := ⟨w.heap.size + 1 + 1 + 1, 0, none⟩) (by show _ ≤ w.heap.size + 1 + 1 + 1; omega) (.int .u64 C)).setCell (p := ⟨w.heap.size + 1 + 1 + 1, 1, none⟩) (by show _ ≤ w.heap.size + 1 + 1 + 1; omega) (.int .u64 D')).drew
      have hK4 := (((((KeepsOthers.setCell W ⟨w.heap.size + 1 + 1, 0, none⟩ (.int .u64 A)).trans (KeepsOthers.setCell _ ⟨w.heap.size + 1 + 1, 1, none⟩ (.int .u64 B))).trans (KeepsOthers.setCell _ ⟨w.heap.size + 1 + 1 + 1, 0, none⟩ (.int .u64 C))).trans (KeepsOthers.setCell _ ⟨w.heap.size + 1 + 1 + 1, 1, none⟩ (.int .u64 D'))).trans (KeepsOthers.drew _)).same D _ hK rfl
      generalize ((((W.setCell ⟨w.heap.size + 1 + 1, 0, none⟩ (.int .u64 A)).setCell ⟨w.heap.size + 1 + 1, 1, none⟩ (.int .u64 B)).setCell ⟨w.heap.size + 1 + 1 + 1, 0, none⟩ (.int .u64 C)).setCell ⟨w.heap.size + 1 + 1 + 1, 1, none⟩ (.int .u64 D')).drew = W4 at *
      refine ⟨by simp, .inl ⟨_, _, rfl, run_takeDeferred hK4, ?_⟩⟩
      have P2' := pair_grown P2 (grownBy_putObj' _ D (.deferred none)) (fun r e => by cases e; exact ⟨_, hK4, rfl⟩)
      have P3' := pair_grown P3 (grownBy_putObj' _ D (.deferred none)) (fun r e => by cases e; exact ⟨_, hK4, rfl⟩)
      refine ⟨.tuple #[.agg #[.int .u64 A, .int .u64 B], .agg #[.int .u64 C, .int .u64 D']], ?_, ?_, HB.trans (belowK_b (w := w) (Nat.le_refl _) _ D _ _ (by omega) hK4 rfl rfl)⟩
      · simp [results, Try.results61, go_sem, P2'.c0, P2'.c1, P3'.c0, P3'.c1]
      · rw [← GG.out.1, ← GG.out.2.1, ← GG.out.2.2.1, ← GG.out.2.2.2]
  case stop =>
    rintro D c pre W _ _ h _
    exact h.elim
end Go.Proofs.Ytnopgdheffnfdaa
