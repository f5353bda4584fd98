/- Package round's rises: whether a number becomes the upper one of its two neighbours. -/
import Derived.Test.YtnopgdheffnfdaaRmode
import Derived.Test.YtnopgdheffnfdaaVtwo
import Derived.Deep.RegionHeld3
import Derived.Laws.EntriesVeiled
namespace Go.Proofs.Ytnopgdheffnfdaa
open Go.RowKit

/-- which one is taken: the sign of the quotient, of what is nearer, and whether the quotient is odd are known -/
def risesB (sq nr : Int) (od : Bool) (m : Int) : Bool :=
  if m = 1 then true else if m = 2 then false else if m = 3 then !decide (sq < 0) else if m = 4 then decide (sq < 0)
  else if m = 5 then halfB nr true else if m = 6 then halfB nr false else if m = 7 then halfB nr (!decide (sq < 0)) else if m = 8 then halfB nr (decide (sq < 0)) else halfB nr od

set_option maxRecDepth 100000 in
set_option maxHeartbeats 8000000 in
theorem rises_core (q r d s c sd nr sq m : Int) (SB : Hid (∀ W, Calls Try.prog 29 #[.agg #[.int .i64 (hiW d), .int .u64 (loW d)], .agg #[.int .i64 (hiW r), .int .u64 (loW r)]] W (fun e w' => e = .returned (.tuple #[.agg #[.int .i64 (hiW s), .int .u64 (loW s)], .int .i64 0]) ∧ Below W.heap.size W w'))) (CM : Hid (∀ W, Calls Try.prog 24 #[.agg #[.int .i64 (hiW r), .int .u64 (loW r)], .agg #[.int .i64 (hiW s), .int .u64 (loW s)]] W (RetV W (.int .i64 c)))) (SD : Hid (∀ W, Calls Try.prog 26 #[.agg #[.int .i64 (hiW d), .int .u64 (loW d)]] W (RetV W (.int .i64 sd)))) (SQ : Hid (∀ W, Calls Try.prog 26 #[.agg #[.int .i64 (hiW q), .int .u64 (loW q)]] W (RetV W (.int .i64 sq)))) (hw : IntKind.i64.wrap (c * sd) = nr) (hr : Hid (r ≠ 0)) (m1 : 1 ≤ m) (m9 : m ≤ 9) (w : World) :
    Calls Try.prog 28 #[.agg #[.int .i64 (hiW q), .int .u64 (loW q)], .agg #[.int .i64 (hiW r), .int .u64 (loW r)], .agg #[.int .i64 (hiW d), .int .u64 (loW d)], .int .i64 m] w (RetV w (.bool (risesB sq nr ((loW q).tmod 2 == 1) m))) := by
  go_enter Try.func28, Try.ntmps28
  go_upto_region 1 with (fail)
  have KB := ((((BK.nil w).more2 (.int .i64 (hiW q)) (.int .u64 (loW q)) 24).more2 (.int .i64 (hiW r)) (.int .u64 (loW r)) 24).more2 (.int .i64 (hiW d)) (.int .u64 (loW d)) 24)
  try simp only [World.size_alloc] at KB
  generalize (((w.alloc (.cells #[.int .i64 (hiW q), .int .u64 (loW q)] 24)).alloc (.cells #[.int .i64 (hiW r), .int .u64 (loW r)] 24)).alloc (.cells #[.int .i64 (hiW d), .int .u64 (loW d)] 24)) = w0 at *
  go_cut [18] (fun v18 wx => v18 = .bool false ∧ BK w [(w.heap.size + 1 + 1, [.int .i64 (hiW d), .int .u64 (loW d)]), (w.heap.size + 1, [.int .i64 (hiW r), .int .u64 (loW r)]), (w.heap.size, [.int .i64 (hiW q), .int .u64 (loW q)])] wx)
  case first =>
    obtain ⟨_, c0, c1, _, _⟩ := (KB.tail.head).two
    by_cases hx : hiW r = 0
    · have hz : ¬ loW r = 0 := fun k => hr.out (by unfold hiW at hx; unfold loW at k; omega)
      have hz' : (loW r == 0) = false := by rw [beq_eq_false_iff_ne]; exact hz
      rw [hx] at c0
      go_wp2_with fail
      go_meet
      exact ⟨rfl, KB⟩
    · have hx' : (hiW r == 0) = false := by rw [beq_eq_false_iff_ne]; exact hx
      go_wp2_with fail
      go_meet
      exact ⟨rfl, KB⟩
  case rest =>
  clear KB
  obtain ⟨rfl, KB⟩ := hcut
  obtain ⟨_, a0, a1, _, _⟩ := (KB.head).two
  obtain ⟨_, b0, b1, _, _⟩ := (KB.tail.head).two
  go_wp2_with fail
  refine (SB.out _).mono ?_
  rintro e w1 ⟨rfl, k⟩
  replace KB := KB.below k
  clear k
  clear a0 a1 b0 b1
  go_wp2_with fail
  have hg := KB.head.lt
  replace KB := KB.more2 (.int .i64 (hiW s)) (.int .u64 (loW s)) 24
  generalize w1.alloc (.cells #[.int .i64 (hiW s), .int .u64 (loW s)] 24) = w2 at *
  generalize w1.heap.size = g at *
  obtain ⟨lo, st, hlo⟩ := KB.preB (KB.tail.tail.tail.head).lt [.int .i64 0]
  have la0 : g ≤ lo := hlo (g, [.int .i64 (hiW s), .int .u64 (loW s)]) (by simp)
  have la1 : w.heap.size + 1 + 1 ≤ lo := hlo (w.heap.size + 1 + 1, [.int .i64 (hiW d), .int .u64 (loW d)]) (by simp)
  have la2 : w.heap.size + 1 ≤ lo := hlo (w.heap.size + 1, [.int .i64 (hiW r), .int .u64 (loW r)]) (by simp)
  have la3 : w.heap.size ≤ lo := hlo (w.heap.size, [.int .i64 (hiW q), .int .u64 (loW q)]) (by simp)
  clear hlo
  go_cut [11] (fun v11 wx => CutOneB lo (BK w [(g, [.int .i64 (hiW s), .int .u64 (loW s)]), (w.heap.size + 1 + 1, [.int .i64 (hiW d), .int .u64 (loW d)]), (w.heap.size + 1, [.int .i64 (hiW r), .int .u64 (loW r)]), (w.heap.size, [.int .i64 (hiW q), .int .u64 (loW q)])]) [.int .i64 nr] v11 wx)
  case first =>
    obtain ⟨_, ja0, jb0, _, _⟩ := (KB.tail.tail.head).two
    obtain ⟨_, ja1, jb1, _, _⟩ := (KB.head).two
    obtain ⟨_, ja2, jb2, _, _⟩ := (KB.tail.head).two
    clear KB
    have ⟨gp0, gq0⟩ := behindB st.lt la2
    have ⟨gp1, gq1⟩ := behindB st.lt la0
    have ⟨gp2, gq2⟩ := behindB st.lt la1
    have ⟨gp3, gq3⟩ := behindB st.lt la3
    go_region_held3 (fun w' => w'.cell? ⟨w.heap.size + 1, 0, none⟩ = some (.int .i64 (hiW r)) ∧ w'.cell? ⟨w.heap.size + 1, 1, none⟩ = some (.int .u64 (loW r)) ∧ w'.cell? ⟨g, 0, none⟩ = some (.int .i64 (hiW s)) ∧ w'.cell? ⟨g, 1, none⟩ = some (.int .u64 (loW s)) ∧ w'.cell? ⟨w.heap.size + 1 + 1, 0, none⟩ = some (.int .i64 (hiW d)) ∧ w'.cell? ⟨w.heap.size + 1 + 1, 1, none⟩ = some (.int .u64 (loW d))) (first | (with_reducible exact ⟨(st.k.tail.tail.head).two.2.1, (st.k.tail.tail.head).two.2.2.1, (st.k.head).two.2.1, (st.k.head).two.2.2.1, (st.k.tail.head).two.2.1, (st.k.tail.head).two.2.2.1⟩) | (with_reducible exact ⟨((st.alloc1 _).k.tail.tail.head).two.2.1, ((st.alloc1 _).k.tail.tail.head).two.2.2.1, ((st.alloc1 _).k.head).two.2.1, ((st.alloc1 _).k.head).two.2.2.1, ((st.alloc1 _).k.tail.head).two.2.1, ((st.alloc1 _).k.tail.head).two.2.2.1⟩) | (with_reducible exact ⟨((st.alloc2 _).k.tail.tail.head).two.2.1, ((st.alloc2 _).k.tail.tail.head).two.2.2.1, ((st.alloc2 _).k.head).two.2.1, ((st.alloc2 _).k.head).two.2.2.1, ((st.alloc2 _).k.tail.head).two.2.1, ((st.alloc2 _).k.tail.head).two.2.2.1⟩) | (with_reducible exact ⟨(st.drew.k.tail.tail.head).two.2.1, (st.drew.k.tail.tail.head).two.2.2.1, (st.drew.k.head).two.2.1, (st.drew.k.head).two.2.2.1, (st.drew.k.tail.head).two.2.1, (st.drew.k.tail.head).two.2.2.1⟩) | (with_reducible exact ⟨((st.alloc1 _).drew.k.tail.tail.head).two.2.1, ((st.alloc1 _).drew.k.tail.tail.head).two.2.2.1, ((st.alloc1 _).drew.k.head).two.2.1, ((st.alloc1 _).drew.k.head).two.2.2.1, ((st.alloc1 _).drew.k.tail.head).two.2.1, ((st.alloc1 _).drew.k.tail.head).two.2.2.1⟩) | (with_reducible exact ⟨((st.alloc2 _).drew.k.tail.tail.head).two.2.1, ((st.alloc2 _).drew.k.tail.tail.head).two.2.2.1, ((st.alloc2 _).drew.k.head).two.2.1, ((st.alloc2 _).drew.k.head).two.2.2.1, ((st.alloc2 _).drew.k.tail.head).two.2.1, ((st.alloc2 _).drew.k.tail.head).two.2.2.1⟩) | go_keep)
      (first
        | (go_at_call 24; (with_reducible refine (CM.out _).mono ?_); rintro e x ⟨rfl, k⟩
           with_reducible (first | replace st := st.below k | replace st := (st.alloc1 _).below k | replace st := (st.alloc2 _).below k | replace st := st.drew.below k | replace st := (st.alloc1 _).drew.below k | replace st := (st.alloc2 _).drew.below k)
           clear k
           obtain ⟨_, ka0, kb0, _, _⟩ := (st.k.tail.tail.head).two
           obtain ⟨_, ka1, kb1, _, _⟩ := (st.k.head).two
           obtain ⟨_, ka2, kb2, _, _⟩ := (st.k.tail.head).two
           obtain ⟨gp0, gq0⟩ := behindB st.lt la2
           try obtain ⟨gr0, gs0⟩ := behindB (st.ge _ (List.mem_cons_self ..)) la2
           try obtain ⟨gt0, gu0⟩ := behindB (st.ge _ (List.mem_cons_of_mem _ (List.mem_cons_self ..))) la2
           obtain ⟨gp1, gq1⟩ := behindB st.lt la0
           try obtain ⟨gr1, gs1⟩ := behindB (st.ge _ (List.mem_cons_self ..)) la0
           try obtain ⟨gt1, gu1⟩ := behindB (st.ge _ (List.mem_cons_of_mem _ (List.mem_cons_self ..))) la0
           obtain ⟨gp2, gq2⟩ := behindB st.lt la1
           try obtain ⟨gr2, gs2⟩ := behindB (st.ge _ (List.mem_cons_self ..)) la1
           try obtain ⟨gt2, gu2⟩ := behindB (st.ge _ (List.mem_cons_of_mem _ (List.mem_cons_self ..))) la1
           obtain ⟨gp3, gq3⟩ := behindB st.lt la3
           try obtain ⟨gr3, gs3⟩ := behindB (st.ge _ (List.mem_cons_self ..)) la3
           try obtain ⟨gt3, gu3⟩ := behindB (st.ge _ (List.mem_cons_of_mem _ (List.mem_cons_self ..))) la3
           try obtain ⟨_, y0, y2⟩ := (st.al _ (List.mem_cons_self ..)).one
           try obtain ⟨_, y4, y6⟩ := (st.al _ (List.mem_cons_of_mem _ (List.mem_cons_self ..))).one)
        | (go_at_call 26; (with_reducible refine (SD.out _).mono ?_); rintro e x ⟨rfl, k⟩
           with_reducible (first | replace st := st.below k | replace st := (st.alloc1 _).below k | replace st := (st.alloc2 _).below k | replace st := st.drew.below k | replace st := (st.alloc1 _).drew.below k | replace st := (st.alloc2 _).drew.below k)
           clear k
           obtain ⟨_, ka0, kb0, _, _⟩ := (st.k.tail.tail.head).two
           obtain ⟨_, ka1, kb1, _, _⟩ := (st.k.head).two
           obtain ⟨_, ka2, kb2, _, _⟩ := (st.k.tail.head).two
           obtain ⟨gp0, gq0⟩ := behindB st.lt la2
           try obtain ⟨gr0, gs0⟩ := behindB (st.ge _ (List.mem_cons_self ..)) la2
           try obtain ⟨gt0, gu0⟩ := behindB (st.ge _ (List.mem_cons_of_mem _ (List.mem_cons_self ..))) la2
           obtain ⟨gp1, gq1⟩ := behindB st.lt la0
           try obtain ⟨gr1, gs1⟩ := behindB (st.ge _ (List.mem_cons_self ..)) la0
           try obtain ⟨gt1, gu1⟩ := behindB (st.ge _ (List.mem_cons_of_mem _ (List.mem_cons_self ..))) la0
           obtain ⟨gp2, gq2⟩ := behindB st.lt la1
           try obtain ⟨gr2, gs2⟩ := behindB (st.ge _ (List.mem_cons_self ..)) la1
           try obtain ⟨gt2, gu2⟩ := behindB (st.ge _ (List.mem_cons_of_mem _ (List.mem_cons_self ..))) la1
           obtain ⟨gp3, gq3⟩ := behindB st.lt la3
           try obtain ⟨gr3, gs3⟩ := behindB (st.ge _ (List.mem_cons_self ..)) la3
           try obtain ⟨gt3, gu3⟩ := behindB (st.ge _ (List.mem_cons_of_mem _ (List.mem_cons_self ..))) la3
           try obtain ⟨_, y0, y2⟩ := (st.al _ (List.mem_cons_self ..)).one
           try obtain ⟨_, y4, y6⟩ := (st.al _ (List.mem_cons_of_mem _ (List.mem_cons_self ..))).one))
    all_goals
      go_wp2_with fail
      go_meet
      refine ⟨_, rfl, ?_⟩
      with_reducible first | exact st.one1 _ | exact st.one2 _ _
  case rest =>
  obtain ⟨h, rfl, s0⟩ := hcut
  clear st
  have KB := s0.k.cons s0.bg
  have ggh := s0.gg
  have nh0 : h ≠ g := by omega
  have nh1 : h ≠ w.heap.size + 1 + 1 := by omega
  have nh2 : h ≠ w.heap.size + 1 := by omega
  have nh3 : h ≠ w.heap.size := by omega
  clear s0 la0 la1 la2 la3 ggh
  clear lo
  go_wp2_with fail
  obtain ⟨lo, st, hlo⟩ := KB.preB (KB.tail.tail.tail.tail.head).lt [.bool false]
  have la0 : h ≤ lo := hlo (h, [.int .i64 nr]) (by simp)
  have la1 : g ≤ lo := hlo (g, [.int .i64 (hiW s), .int .u64 (loW s)]) (by simp)
  have la2 : w.heap.size + 1 + 1 ≤ lo := hlo (w.heap.size + 1 + 1, [.int .i64 (hiW d), .int .u64 (loW d)]) (by simp)
  have la3 : w.heap.size + 1 ≤ lo := hlo (w.heap.size + 1, [.int .i64 (hiW r), .int .u64 (loW r)]) (by simp)
  have la4 : w.heap.size ≤ lo := hlo (w.heap.size, [.int .i64 (hiW q), .int .u64 (loW q)]) (by simp)
  clear hlo
  go_cut [12, 13] (fun v12 v13 wx => CutTwoB lo (BK w [(h, [.int .i64 nr]), (g, [.int .i64 (hiW s), .int .u64 (loW s)]), (w.heap.size + 1 + 1, [.int .i64 (hiW d), .int .u64 (loW d)]), (w.heap.size + 1, [.int .i64 (hiW r), .int .u64 (loW r)]), (w.heap.size, [.int .i64 (hiW q), .int .u64 (loW q)])]) [.bool (decide (sq < 0))] [.bool ((loW q).tmod 2 == 1)] v12 v13 wx)
  case first =>
    obtain ⟨_, ja0, jb0, _, _⟩ := (KB.tail.tail.tail.tail.head).two
    clear KB
    have ⟨gp0, gq0⟩ := behindB st.lt la4
    go_region_held3 (fun w' => w'.cell? ⟨w.heap.size, 0, none⟩ = some (.int .i64 (hiW q)) ∧ w'.cell? ⟨w.heap.size, 1, none⟩ = some (.int .u64 (loW q))) (first | (with_reducible exact ⟨(st.k.tail.tail.tail.tail.head).two.2.1, (st.k.tail.tail.tail.tail.head).two.2.2.1⟩) | (with_reducible exact ⟨((st.alloc1 _).k.tail.tail.tail.tail.head).two.2.1, ((st.alloc1 _).k.tail.tail.tail.tail.head).two.2.2.1⟩) | (with_reducible exact ⟨((st.alloc2 _).k.tail.tail.tail.tail.head).two.2.1, ((st.alloc2 _).k.tail.tail.tail.tail.head).two.2.2.1⟩) | (with_reducible exact ⟨(st.drew.k.tail.tail.tail.tail.head).two.2.1, (st.drew.k.tail.tail.tail.tail.head).two.2.2.1⟩) | (with_reducible exact ⟨((st.alloc1 _).drew.k.tail.tail.tail.tail.head).two.2.1, ((st.alloc1 _).drew.k.tail.tail.tail.tail.head).two.2.2.1⟩) | (with_reducible exact ⟨((st.alloc2 _).drew.k.tail.tail.tail.tail.head).two.2.1, ((st.alloc2 _).drew.k.tail.tail.tail.tail.head).two.2.2.1⟩) | go_keep)
      (first
        | (go_at_call 26; (with_reducible refine (SQ.out _).mono ?_); rintro e x ⟨rfl, k⟩
           with_reducible (first | replace st := st.below k | replace st := (st.alloc1 _).below k | replace st := (st.alloc2 _).below k | replace st := st.drew.below k | replace st := (st.alloc1 _).drew.below k | replace st := (st.alloc2 _).drew.below k)
           clear k
           obtain ⟨_, ka0, kb0, _, _⟩ := (st.k.tail.tail.tail.tail.head).two
           obtain ⟨gp0, gq0⟩ := behindB st.lt la4
           try obtain ⟨gr0, gs0⟩ := behindB (st.ge _ (List.mem_cons_self ..)) la4
           try obtain ⟨gt0, gu0⟩ := behindB (st.ge _ (List.mem_cons_of_mem _ (List.mem_cons_self ..))) la4
           try obtain ⟨_, y0, y2⟩ := (st.al _ (List.mem_cons_self ..)).one
           try obtain ⟨_, y4, y6⟩ := (st.al _ (List.mem_cons_of_mem _ (List.mem_cons_self ..))).one))
    all_goals
      go_wp2_with fail
      go_meet
      refine ⟨_, _, rfl, rfl, ?_⟩
      with_reducible first | exact st.fin1a _ _ | exact st.fin1b _ _ | exact st.fin2a _ _ _ | exact st.fin2b _ _ _ | exact st.fin3a _ _ _ | exact st.fin3b _ _ _
  case rest =>
  obtain ⟨x, y, rfl, rfl, s0⟩ := hcut
  clear st
  have KB := (s0.k.cons s0.bg).cons s0.bh
  have ggx := s0.gg
  have ggy := s0.gh
  have nex := s0.ne
  have nx0 : x ≠ h := by omega
  have ny0 : y ≠ h := by omega
  have nx1 : x ≠ g := by omega
  have ny1 : y ≠ g := by omega
  have nx2 : x ≠ w.heap.size + 1 + 1 := by omega
  have ny2 : y ≠ w.heap.size + 1 + 1 := by omega
  have nx3 : x ≠ w.heap.size + 1 := by omega
  have ny3 : y ≠ w.heap.size + 1 := by omega
  have nx4 : x ≠ w.heap.size := by omega
  have ny4 : y ≠ w.heap.size := by omega
  clear s0 la0 la1 la2 la3 la4 ggx ggy
  clear lo
  go_upto_region 7 with (fail)
  have hk := KB.head.lt
  replace KB := KB.more1 (halfV h) 65
  unfold halfV at KB
  generalize wc.alloc (.cells #[.func (.func 46) #[] #[.pointer (some ⟨h, 0, none⟩)]] 65) = w3 at *
  generalize wc.heap.size = k at *
  go_upto_region 8 with (fail)
  have KC := fun o => KB.below (below_box w3 o)
  clear KB hk SB CM SD SQ
  have hm : m = 1 ∨ m = 2 ∨ m = 3 ∨ m = 4 ∨ m = 5 ∨ m = 6 ∨ m = 7 ∨ m = 8 ∨ m = 9 := by omega
  clear m1 m9
  rcases hm with rfl | rfl | rfl | rfl | rfl | rfl | rfl | rfl | rfl
  · go_wp2_with (go_at_call 47; refine (ceil_any _).mono ?_; rintro e w' ⟨rfl, rfl⟩)
    go_ret
    exact ⟨rfl, (KC _).hb⟩
  · go_wp2_with (go_at_call 48; refine (floor_lit _).mono ?_; rintro e w' ⟨rfl, rfl⟩)
    go_ret
    exact ⟨rfl, (KC _).hb⟩
  · go_wp2_with (go_at_call 49; refine (expand_any (decide (sq < 0)) x _ (by exact (KC _).tail.tail.head)).mono ?_; rintro e w' ⟨rfl, rfl⟩)
    go_ret
    exact ⟨rfl, (KC _).hb⟩
  · go_wp2_with (go_at_call 50; refine (trunc_lit (decide (sq < 0)) x _ (by exact (KC _).tail.tail.head)).mono ?_; rintro e w' ⟨rfl, rfl⟩)
    go_ret
    exact ⟨rfl, (KC _).hb⟩
  · go_wp2_with (go_at_call 51; refine (halfCeil_any nr h k _ (by exact (KC _).tail.tail.tail.head) (by exact (KC _).head)).mono ?_; rintro e w' ⟨rfl, rfl⟩)
    go_ret
    exact ⟨rfl, (KC _).hb⟩
  · go_wp2_with (go_at_call 52; refine (halfFloor_any nr h k _ (by exact (KC _).tail.tail.tail.head) (by exact (KC _).head)).mono ?_; rintro e w' ⟨rfl, rfl⟩)
    go_ret
    exact ⟨rfl, (KC _).hb⟩
  · go_wp2_with (go_at_call 53; refine (halfExpand_any nr (decide (sq < 0)) h k x _ (by exact (KC _).tail.tail.tail.head) (by exact (KC _).head) (by exact (KC _).tail.tail.head)).mono ?_; rintro e w' ⟨rfl, rfl⟩)
    go_ret
    exact ⟨rfl, (KC _).hb⟩
  · go_wp2_with (go_at_call 54; refine (halfTrunc_any nr (decide (sq < 0)) h k x _ (by exact (KC _).tail.tail.tail.head) (by exact (KC _).head) (by exact (KC _).tail.tail.head)).mono ?_; rintro e w' ⟨rfl, rfl⟩)
    go_ret
    exact ⟨rfl, (KC _).hb⟩
  · go_wp2_with (go_at_call 55; refine (halfEven_any nr ((loW q).tmod 2 == 1) h k y _ (by exact (KC _).tail.tail.tail.head) (by exact (KC _).head) (by exact (KC _).tail.head)).mono ?_; rintro e w' ⟨rfl, rfl⟩)
    go_ret
    exact ⟨rfl, (KC _).hb⟩

set_option maxRecDepth 100000 in
set_option maxHeartbeats 8000000 in
theorem rises_zero (q d m : Int) (w : World) :
    Calls Try.prog 28 #[.agg #[.int .i64 (hiW q), .int .u64 (loW q)], .agg #[.int .i64 0, .int .u64 0], .agg #[.int .i64 (hiW d), .int .u64 (loW d)], .int .i64 m] w (RetV w (.bool false)) := by
  have KB := ((((BK.nil w).more2 (.int .i64 (hiW q)) (.int .u64 (loW q)) 24).more2 (.int .i64 0) (.int .u64 0) 24).more2 (.int .i64 (hiW d)) (.int .u64 (loW d)) 24)
  try simp only [World.size_alloc] at KB
  go_enter Try.func28, Try.ntmps28
  go_wp2
  go_ret
  exact ⟨rfl, KB.hb⟩
end Go.Proofs.Ytnopgdheffnfdaa
