import Derived.Test.YtlidicnbmfkghaaGreatDoorGd
import Derived.Test.YtlidicnbmfkghaaGreatDoorGr
import Derived.Test.YtlidicnbmfkghaaGreatDoorGv
import Derived.Deep.RegionHeld3
import Derived.Test.YtlidicnbmfkghaaGreatDoorGm
/- The document's answer of layer 4: a fraction rounded to a whole number. -/
namespace Go.Proofs.YtlidicnbmfkghaaGreatDoor
open Go.RowKit

/-- What a call that answers a number and true leaves. -/
def RetNB (w : World) (z : Int) (e : Ending) (w' : World) : Prop := ∃ (p : Bool) (A : Option Addr) (n c : Nat), e = .returned (.tuple #[.agg #[.bool p, .slice A n c], .bool true]) ∧ Zs w' p A n c z ∧ Below w.heap.size w w'
/-- which one is taken: the signs of the number and of the rest's double held against the step are known -/
def pickN (lo sn hf mode : Int) : Int :=
  if 5 ≤ mode ∧ hf < 0 then lo
  else if 5 ≤ mode ∧ 0 < hf then lo + 1
  else if mode = 1 ∨ mode = 5 then lo + 1
  else if mode = 2 ∨ mode = 6 then lo
  else if mode = 3 ∨ mode = 7 then (if sn < 0 then lo else lo + 1)
  else if mode = 4 ∨ mode = 8 then (if sn < 0 then lo + 1 else lo)
  else if lo % 2 = 0 then lo else lo + 1
theorem pk_low {lo sn hf m : Int} (h5 : 5 ≤ m) (h : hf < 0) : pickN lo sn hf m = lo := by unfold pickN; rw [if_pos ⟨h5, h⟩]
theorem pk_high {lo sn hf m : Int} (h5 : 5 ≤ m) (h : 0 < hf) : pickN lo sn hf m = lo + 1 := by unfold pickN; rw [if_neg (by omega), if_pos ⟨h5, h⟩]
theorem pk_rest {lo sn hf m : Int} (h : m < 5 ∨ ¬ hf < 0 ∧ ¬ 0 < hf) : pickN lo sn hf m = (if m = 1 ∨ m = 5 then lo + 1 else if m = 2 ∨ m = 6 then lo else if m = 3 ∨ m = 7 then (if sn < 0 then lo else lo + 1) else if m = 4 ∨ m = 8 then (if sn < 0 then lo + 1 else lo) else if lo % 2 = 0 then lo else lo + 1) := by unfold pickN; rw [if_neg (by omega), if_neg (by omega)]
theorem pk_15 {lo sn hf m : Int} (h : m < 5 ∨ ¬ hf < 0 ∧ ¬ 0 < hf) (hm : m = 1 ∨ m = 5) : pickN lo sn hf m = lo + 1 := by rw [pk_rest h, if_pos hm]
theorem pk_26 {lo sn hf m : Int} (h : m < 5 ∨ ¬ hf < 0 ∧ ¬ 0 < hf) (hm : m = 2 ∨ m = 6) : pickN lo sn hf m = lo := by rw [pk_rest h, if_neg (by omega), if_pos hm]
theorem pk_37n {lo sn hf m : Int} (h : m < 5 ∨ ¬ hf < 0 ∧ ¬ 0 < hf) (hm : m = 3 ∨ m = 7) (hs : sn < 0) : pickN lo sn hf m = lo := by rw [pk_rest h, if_neg (by omega), if_neg (by omega), if_pos hm, if_pos hs]
theorem pk_37p {lo sn hf m : Int} (h : m < 5 ∨ ¬ hf < 0 ∧ ¬ 0 < hf) (hm : m = 3 ∨ m = 7) (hs : ¬ sn < 0) : pickN lo sn hf m = lo + 1 := by rw [pk_rest h, if_neg (by omega), if_neg (by omega), if_pos hm, if_neg hs]
theorem pk_48n {lo sn hf m : Int} (h : m < 5 ∨ ¬ hf < 0 ∧ ¬ 0 < hf) (hm : m = 4 ∨ m = 8) (hs : sn < 0) : pickN lo sn hf m = lo + 1 := by rw [pk_rest h, if_neg (by omega), if_neg (by omega), if_neg (by omega), if_pos hm, if_pos hs]
theorem pk_48p {lo sn hf m : Int} (h : m < 5 ∨ ¬ hf < 0 ∧ ¬ 0 < hf) (hm : m = 4 ∨ m = 8) (hs : ¬ sn < 0) : pickN lo sn hf m = lo := by rw [pk_rest h, if_neg (by omega), if_neg (by omega), if_neg (by omega), if_pos hm, if_neg hs]
theorem pk_9e {lo sn hf : Int} (h : ¬ hf < 0) (h' : ¬ 0 < hf) (he : lo % 2 = 0) : pickN lo sn hf 9 = lo := by rw [pk_rest (.inr ⟨h, h'⟩), if_neg (by omega), if_neg (by omega), if_neg (by omega), if_neg (by omega), if_pos he]
theorem pk_9o {lo sn hf : Int} (h : ¬ hf < 0) (h' : ¬ 0 < hf) (he : ¬ lo % 2 = 0) : pickN lo sn hf 9 = lo + 1 := by rw [pk_rest (.inr ⟨h, h'⟩), if_neg (by omega), if_neg (by omega), if_neg (by omega), if_neg (by omega), if_neg he]
/-- the first digit tells whether a number is even -/
theorem first_even (z : Int) : ((((digs z.natAbs).getD 0 0 : Nat) : Int)) % 2 = z % 2 := by
  by_cases h : z.natAbs = 0
  · rw [h, digs_zero]
    have : z = 0 := by omega
    rw [this]; rfl
  · have e := val_digs z.natAbs
    obtain ⟨d, l, hl⟩ : ∃ d l, digs z.natAbs = d :: l := by
      cases hd : digs z.natAbs with
      | nil => rw [hd] at e; exact absurd e.symm (by simpa [val] using h)
      | cons d l => exact ⟨d, l, rfl⟩
    rw [hl] at e ⊢
    simp only [val] at e
    simp only [List.getD_cons_zero]
    omega
theorem ofu_one (w : World) : Calls Tryz.prog 47 #[.int .u64 1] w (RetZ w 1) := ofu_any 1 w (by decide)

set_option maxRecDepth 100000 in
set_option maxHeartbeats 8000000 in
theorem near_zero (p q : Bool) (A B : Option Addr) (n m c d : Nat) (x y lo re mode : Int) (m1 : 1 ≤ mode) (m9 : mode ≤ 9) (DV : Hid (∀ W, Zs W p A n c x → Zs W q B m d y → Calls Tryz.prog 44 #[.agg #[.bool p, .slice A n c], .agg #[.bool q, .slice B m d]] W (RetQR W lo re))) (sl : Hid (lo.natAbs < 65536 ^ 9)) (sr : Hid (re.natAbs < 65536 ^ 9)) (SR : Hid (∀ p A n c W, Zs W p A n c re → n ≤ 900000 → Calls Tryz.prog 45 #[.agg #[.bool p, .slice A n c]] W (RetV W (.int .i64 0)))) (w : World) (hx : Zs w p A n c x) (hy : Zs w q B m d y) :
    Calls Tryz.prog 21 #[.agg #[.bool p, .slice A n c], .agg #[.bool q, .slice B m d], .int .i64 mode] w (RetNB w lo) := by
  have KK := (((BZ.nil w [(p, A, n, c, x), (q, B, m, d, y)] (by simp [hx, hy])).more p (.slice A n c) 61).more q (.slice B m d) 61).more false (.slice none 0 0) 61
  simp only [World.size_alloc] at KK
  clear hx hy
  have m0 : ¬ mode < 1 := by omega
  have m8 : ¬ 9 < mode := by omega
  go_enter Tryz.func21, Tryz.ntmps21
  go_wp2_with fail
  generalize (((w.alloc (.cells #[.bool p, .slice A n c] 61)).alloc (.cells #[.bool q, .slice B m d] 61)).alloc (.cells #[.bool false, .slice none 0 0] 61)) = w0 at *
  refine (DV.out _ KK.num KK.nt.num).mono ?_
  rintro e w1 ⟨p1, A1, n1, c1, p2, A2, n2, c2, rfl, z1, z2, k⟩
  have l1 := z1.small sl.out
  have l2 := z2.small sr.out
  replace KK := ((KK.below k).ncons z1).ncons z2
  clear k z1 z2
  go_wp2_with fail
  have hg := KK.head.lt
  replace KK := (KK.more p1 (.slice A1 n1 c1) 61).more p2 (.slice A2 n2 c2) 61
  rw [World.size_alloc] at KK
  generalize (w1.alloc (.cells #[.bool p1, .slice A1 n1 c1] 61)).alloc (.cells #[.bool p2, .slice A2 n2 c2] 61) = w2 at *
  generalize w1.heap.size = g at *
  refine (SR.out p2 A2 n2 c2 _ KK.num (by omega)).mono ?_
  rintro e w3 ⟨rfl, k⟩
  replace KK := KK.below k
  clear k
  obtain ⟨_, a0, a1, _, _⟩ := KK.tail.head
  obtain ⟨_, s0, s1, s2, s3⟩ := KK.tail.tail.head
  have i1 : w.heap.size + 1 + 1 ≠ g := by omega
  go_wp2
  have P2 := KK.tail.tail.head.self2 p1 (.slice A1 n1 c1)
  have Z2 := (KK.nt.num).set2 KK.tail.tail.head.c0 p1 (.slice A1 n1 c1)
  have HB := (KK.hb.setCell (p := ⟨w.heap.size + 1 + 1, 0, none⟩) (by show _ ≤ w.heap.size + 1 + 1; omega) (.bool p1)).setCell (p := ⟨w.heap.size + 1 + 1, 1, none⟩) (by show _ ≤ w.heap.size + 1 + 1; omega) (.slice A1 n1 c1)
  exact bodyPost_ret (v := .tuple #[.agg #[.bool p1, .slice A1 n1 c1], .bool true]) (by simp [results, Tryz.results21, go_sem, P2.c0, P2.c1]) rfl ⟨p1, A1, n1, c1, rfl, Z2, HB⟩

set_option maxRecDepth 100000 in
set_option maxHeartbeats 8000000 in
theorem near_rest (p q : Bool) (A B : Option Addr) (n m c d : Nat) (x y lo re mode : Int) (m1 : 1 ≤ mode) (m9 : mode ≤ 9) (DV : Hid (∀ W, Zs W p A n c x → Zs W q B m d y → Calls Tryz.prog 44 #[.agg #[.bool p, .slice A n c], .agg #[.bool q, .slice B m d]] W (RetQR W lo re))) (sl : Hid (lo.natAbs < 65536 ^ 9)) (sr : Hid (re.natAbs < 65536 ^ 9)) (v sn hf : Int) (hv : (v == 0) = false) (SR : Hid (∀ p A n c W, Zs W p A n c re → n ≤ 900000 → Calls Tryz.prog 45 #[.agg #[.bool p, .slice A n c]] W (RetV W (.int .i64 v)))) (SN : Hid (∀ W, Zs W p A n c x → Calls Tryz.prog 45 #[.agg #[.bool p, .slice A n c]] W (RetV W (.int .i64 sn)))) (CM : Hid (∀ (p : Bool) (A : Option Addr) (n c : Nat) (W : World), Zs W p A n c (re + re) → Zs W q B m d y → n ≤ 900000 → Calls Tryz.prog 48 #[.agg #[.bool p, .slice A n c], .agg #[.bool q, .slice B m d]] W (RetV W (.int .i64 hf)))) (w : World) (hx : Zs w p A n c x) (hy : Zs w q B m d y) :
    Calls Tryz.prog 21 #[.agg #[.bool p, .slice A n c], .agg #[.bool q, .slice B m d], .int .i64 mode] w (RetNB w (pickN lo sn hf mode)) := by
  have KK := (((BZ.nil w [(p, A, n, c, x), (q, B, m, d, y)] (by simp [hx, hy])).more p (.slice A n c) 61).more q (.slice B m d) 61).more false (.slice none 0 0) 61
  simp only [World.size_alloc] at KK
  clear hx hy
  have m0 : ¬ mode < 1 := by omega
  have m8 : ¬ 9 < mode := by omega
  go_enter Tryz.func21, Tryz.ntmps21
  go_wp2_with fail
  generalize (((w.alloc (.cells #[.bool p, .slice A n c] 61)).alloc (.cells #[.bool q, .slice B m d] 61)).alloc (.cells #[.bool false, .slice none 0 0] 61)) = w0 at *
  refine (DV.out _ KK.num KK.nt.num).mono ?_
  rintro e w1 ⟨p1, A1, n1, c1, p2, A2, n2, c2, rfl, z1, z2, k⟩
  have l1 := z1.small sl.out
  have l2 := z2.small sr.out
  replace KK := ((KK.below k).ncons z1).ncons z2
  clear k z1 z2
  go_wp2_with fail
  have hg := KK.head.lt
  replace KK := (KK.more p1 (.slice A1 n1 c1) 61).more p2 (.slice A2 n2 c2) 61
  rw [World.size_alloc] at KK
  generalize (w1.alloc (.cells #[.bool p1, .slice A1 n1 c1] 61)).alloc (.cells #[.bool p2, .slice A2 n2 c2] 61) = w2 at *
  generalize w1.heap.size = g at *
  refine (SR.out p2 A2 n2 c2 _ KK.num (by omega)).mono ?_
  rintro e w3 ⟨rfl, k⟩
  replace KK := KK.below k
  clear k
  have v0 : ¬ v = 0 := by rw [beq_eq_false_iff_ne] at hv; exact hv
  go_wp2_with fail
  have hws : w.heap.size ≤ w3.heap.size := KK.hb.size
  have s1 := Lib.hid (show (1 : Int).natAbs < 65536 ^ 9 by decide)
  have sh := Lib.hid (show (lo + 1).natAbs < 65536 ^ 10 by have := sl.out; rw [show (65536 : Nat) ^ 10 = 65536 ^ 9 * 65536 by decide]; omega)
  have lt0 : g + 1 < w3.heap.size := (KK.head).lt
  have lt1 : g < w3.heap.size := (KK.tail.head).lt
  have lt2 : w.heap.size + 1 + 1 < w3.heap.size := (KK.tail.tail.head).lt
  have lt3 : w.heap.size + 1 < w3.heap.size := (KK.tail.tail.tail.head).lt
  have lt4 : w.heap.size < w3.heap.size := (KK.tail.tail.tail.tail.head).lt
  obtain ⟨lq, hlo⟩ : ∃ lq, lq + 1 = w3.heap.size := ⟨w3.heap.size - 1, by omega⟩
  have la0 : g + 1 ≤ lq := by omega
  have la1 : g ≤ lq := by omega
  have la2 : w.heap.size + 1 + 1 ≤ lq := by omega
  have la3 : w.heap.size + 1 ≤ lq := by omega
  have la4 : w.heap.size ≤ lq := by omega
  have st : PreD lq (BZ w [(g + 1, p2, .slice A2 n2 c2), (g, p1, .slice A1 n1 c1), (w.heap.size + 1 + 1, false, .slice none 0 0), (w.heap.size + 1, q, .slice B m d), (w.heap.size, p, .slice A n c)] [(p2, A2, n2, c2, re), (p1, A1, n1, c1, lo), (p, A, n, c, x), (q, B, m, d, y)]) w3 [] := ⟨BZ.kept lq (by simp <;> omega) (by omega), KK, by omega, (fun b h => by cases h), (fun b h => by cases h), List.nodup_nil⟩
  clear hlo lt0 lt1 lt2 lt3 lt4
  go_cut [10] (fun v wx => OneCut lq (BZ w [(g + 1, p2, .slice A2 n2 c2), (g, p1, .slice A1 n1 c1), (w.heap.size + 1 + 1, false, .slice none 0 0), (w.heap.size + 1, q, .slice B m d), (w.heap.size, p, .slice A n c)] [(p2, A2, n2, c2, re), (p1, A1, n1, c1, lo), (p, A, n, c, x), (q, B, m, d, y)]) (lo + 1) v wx)
  case first =>
    obtain ⟨_, ja0, jb0, _, _⟩ := st.k.tail.head
    have ⟨gp0, gq0⟩ := behindG st.lt la0
    have ⟨gp1, gq1⟩ := behindG st.lt la1
    have ⟨gp2, gq2⟩ := behindG st.lt la2
    have ⟨gp3, gq3⟩ := behindG st.lt la3
    have ⟨gp4, gq4⟩ := behindG st.lt la4
    go_region_held3 (fun w' => w'.cell? ⟨g, 0, none⟩ = some (.bool p1) ∧ w'.cell? ⟨g, 1, none⟩ = some (.slice A1 n1 c1)) (first | (with_reducible exact ⟨st.k.tail.head.c0, st.k.tail.head.c1⟩) | (with_reducible exact ⟨st.alloc1.k.tail.head.c0, st.alloc1.k.tail.head.c1⟩) | (with_reducible exact ⟨st.alloc2.k.tail.head.c0, st.alloc2.k.tail.head.c1⟩) | (with_reducible exact ⟨st.drew.k.tail.head.c0, st.drew.k.tail.head.c1⟩) | (with_reducible exact ⟨st.alloc1.drew.k.tail.head.c0, st.alloc1.drew.k.tail.head.c1⟩) | (with_reducible exact ⟨st.alloc2.drew.k.tail.head.c0, st.alloc2.drew.k.tail.head.c1⟩) | go_keep)
      (first
        | (go_at_call 47; (with_reducible refine (ofu_one _).mono ?_); rintro e x ⟨p7, A7, n7, c7, rfl, z7, k⟩
           have l7 := z7.small s1.out
           with_reducible (first | replace st := st.below k | replace st := st.alloc1.below k | replace st := st.alloc2.below k | replace st := st.drew.below k | replace st := st.alloc1.drew.below k | replace st := st.alloc2.drew.below k)
           clear k
           obtain ⟨_, ka0, kb0, _, _⟩ := st.k.tail.head
           obtain ⟨gp0, gq0⟩ := behindG st.lt la0
           try obtain ⟨gr0, gs0⟩ := behindG (st.ge _ (List.mem_cons_self ..)) la0
           obtain ⟨gp1, gq1⟩ := behindG st.lt la1
           try obtain ⟨gr1, gs1⟩ := behindG (st.ge _ (List.mem_cons_self ..)) la1
           obtain ⟨gp2, gq2⟩ := behindG st.lt la2
           try obtain ⟨gr2, gs2⟩ := behindG (st.ge _ (List.mem_cons_self ..)) la2
           obtain ⟨gp3, gq3⟩ := behindG st.lt la3
           try obtain ⟨gr3, gs3⟩ := behindG (st.ge _ (List.mem_cons_self ..)) la3
           obtain ⟨gp4, gq4⟩ := behindG st.lt la4
           try obtain ⟨gr4, gs4⟩ := behindG (st.ge _ (List.mem_cons_self ..)) la4
           try obtain ⟨_, y0, y1, y2, y3⟩ := st.al _ (List.mem_cons_self ..))
        | (go_at_call 46; (with_reducible refine (add_any p1 p7 A1 A7 n1 n7 c1 c7 lo 1 _ (by with_reducible first | exact st.k.nt.num | exact st.alloc1.k.nt.num | exact st.alloc2.k.nt.num | exact st.drew.k.nt.num | exact st.alloc1.drew.k.nt.num | exact st.alloc2.drew.k.nt.num) (by with_reducible first | exact z7 | exact (z7.below (below_box _ _)) | exact z7.drew | exact (z7.below (below_box _ _)).drew | exact ((z7.below (below_box _ _)).below (below_box _ _)) | exact ((z7.below (below_box _ _)).below (below_box _ _)).drew) (by omega) (by omega)).mono ?_); rintro e x ⟨p8, A8, n8, c8, rfl, z8, k⟩
           with_reducible (first | replace st := st.below k | replace st := st.alloc1.below k | replace st := st.alloc2.below k | replace st := st.drew.below k | replace st := st.alloc1.drew.below k | replace st := st.alloc2.drew.below k)
           clear k
           obtain ⟨_, ka0, kb0, _, _⟩ := st.k.tail.head
           obtain ⟨gp0, gq0⟩ := behindG st.lt la0
           try obtain ⟨gr0, gs0⟩ := behindG (st.ge _ (List.mem_cons_self ..)) la0
           obtain ⟨gp1, gq1⟩ := behindG st.lt la1
           try obtain ⟨gr1, gs1⟩ := behindG (st.ge _ (List.mem_cons_self ..)) la1
           obtain ⟨gp2, gq2⟩ := behindG st.lt la2
           try obtain ⟨gr2, gs2⟩ := behindG (st.ge _ (List.mem_cons_self ..)) la2
           obtain ⟨gp3, gq3⟩ := behindG st.lt la3
           try obtain ⟨gr3, gs3⟩ := behindG (st.ge _ (List.mem_cons_self ..)) la3
           obtain ⟨gp4, gq4⟩ := behindG st.lt la4
           try obtain ⟨gr4, gs4⟩ := behindG (st.ge _ (List.mem_cons_self ..)) la4
           try obtain ⟨_, y0, y1, y2, y3⟩ := st.al _ (List.mem_cons_self ..)))
    all_goals
      go_wp2_with fail
      go_meet
      refine ⟨_, p8, A8, n8, c8, rfl, ?_⟩
      with_reducible first | exact st.one1 z8 | exact st.one2 z8
  case rest =>
  clear st
  obtain ⟨h, ph, Ah, nh, ch, rfl, s0⟩ := hcut
  have KB := (s0.k.cons s0.bx).ncons s0.zx
  have l8 := s0.zx.small sh.out
  have hgg := s0.gg
  clear s0 KK
  have nh0 : h ≠ g + 1 := by omega
  have nh1 : h ≠ g := by omega
  have nh2 : h ≠ w.heap.size + 1 + 1 := by omega
  have nh3 : h ≠ w.heap.size + 1 := by omega
  have nh4 : h ≠ w.heap.size := by omega
  clear hgg hws la0 la1 la2 la3 la4 lq
  go_wp2_with fail
  have lt0 : h < wc.heap.size := (KB.head).lt
  have lt1 : g + 1 < wc.heap.size := (KB.tail.head).lt
  have lt2 : g < wc.heap.size := (KB.tail.tail.head).lt
  have lt3 : w.heap.size + 1 + 1 < wc.heap.size := (KB.tail.tail.tail.head).lt
  have lt4 : w.heap.size + 1 < wc.heap.size := (KB.tail.tail.tail.tail.head).lt
  have lt5 : w.heap.size < wc.heap.size := (KB.tail.tail.tail.tail.tail.head).lt
  have hws : w.heap.size ≤ wc.heap.size := KB.hb.size
  obtain ⟨lq, hlo⟩ : ∃ lq, lq + 1 = wc.heap.size := ⟨wc.heap.size - 1, by omega⟩
  have la0 : h ≤ lq := by omega
  have la1 : g + 1 ≤ lq := by omega
  have la2 : g ≤ lq := by omega
  have la3 : w.heap.size + 1 + 1 ≤ lq := by omega
  have la4 : w.heap.size + 1 ≤ lq := by omega
  have la5 : w.heap.size ≤ lq := by omega
  have kp : Kept lq (BZ w [(h, ph, .slice Ah nh ch), (g + 1, p2, .slice A2 n2 c2), (g, p1, .slice A1 n1 c1), (w.heap.size + 1 + 1, false, .slice none 0 0), (w.heap.size + 1, q, .slice B m d), (w.heap.size, p, .slice A n c)] [(ph, Ah, nh, ch, lo + 1), (p2, A2, n2, c2, re), (p1, A1, n1, c1, lo), (p, A, n, c, x), (q, B, m, d, y)]) := BZ.kept lq (by simp <;> omega) (by omega)
  have st : PreD lq (BZ w [(h, ph, .slice Ah nh ch), (g + 1, p2, .slice A2 n2 c2), (g, p1, .slice A1 n1 c1), (w.heap.size + 1 + 1, false, .slice none 0 0), (w.heap.size + 1, q, .slice B m d), (w.heap.size, p, .slice A n c)] [(ph, Ah, nh, ch, lo + 1), (p2, A2, n2, c2, re), (p1, A1, n1, c1, lo), (p, A, n, c, x), (q, B, m, d, y)]) wc [] := ⟨kp, KB, by omega, (fun b h => by cases h), (fun b h => by cases h), List.nodup_nil⟩
  clear hlo hws KB lt0 lt1 lt2 lt3 lt4 lt5
  go_cut [11, 12] (fun v v' wx => DivCutD lq (BZ w [(h, ph, .slice Ah nh ch), (g + 1, p2, .slice A2 n2 c2), (g, p1, .slice A1 n1 c1), (w.heap.size + 1 + 1, false, .slice none 0 0), (w.heap.size + 1, q, .slice B m d), (w.heap.size, p, .slice A n c)] [(ph, Ah, nh, ch, lo + 1), (p2, A2, n2, c2, re), (p1, A1, n1, c1, lo), (p, A, n, c, x), (q, B, m, d, y)]) (lo + 1) lo v v' wx)
  case first =>
    obtain ⟨_, ja0, jb0, _, _⟩ := st.k.head
    obtain ⟨_, ja1, jb1, _, _⟩ := st.k.tail.tail.head
    have ⟨gp0, gq0⟩ := behindG st.lt la0
    have ⟨gp1, gq1⟩ := behindG st.lt la1
    have ⟨gp2, gq2⟩ := behindG st.lt la2
    have ⟨gp3, gq3⟩ := behindG st.lt la3
    have ⟨gp4, gq4⟩ := behindG st.lt la4
    have ⟨gp5, gq5⟩ := behindG st.lt la5
    go_region_held3 (fun w' => w'.cell? ⟨h, 0, none⟩ = some (.bool ph) ∧ w'.cell? ⟨h, 1, none⟩ = some (.slice Ah nh ch) ∧ w'.cell? ⟨g, 0, none⟩ = some (.bool p1) ∧ w'.cell? ⟨g, 1, none⟩ = some (.slice A1 n1 c1)) (first | (with_reducible exact ⟨st.k.head.c0, st.k.head.c1, st.k.tail.tail.head.c0, st.k.tail.tail.head.c1⟩) | (with_reducible exact ⟨st.alloc1.k.head.c0, st.alloc1.k.head.c1, st.alloc1.k.tail.tail.head.c0, st.alloc1.k.tail.tail.head.c1⟩) | (with_reducible exact ⟨st.alloc2.k.head.c0, st.alloc2.k.head.c1, st.alloc2.k.tail.tail.head.c0, st.alloc2.k.tail.tail.head.c1⟩) | (with_reducible exact ⟨st.drew.k.head.c0, st.drew.k.head.c1, st.drew.k.tail.tail.head.c0, st.drew.k.tail.tail.head.c1⟩) | (with_reducible exact ⟨st.alloc1.drew.k.head.c0, st.alloc1.drew.k.head.c1, st.alloc1.drew.k.tail.tail.head.c0, st.alloc1.drew.k.tail.tail.head.c1⟩) | (with_reducible exact ⟨st.alloc2.drew.k.head.c0, st.alloc2.drew.k.head.c1, st.alloc2.drew.k.tail.tail.head.c0, st.alloc2.drew.k.tail.tail.head.c1⟩) | go_keep) (fail)
    all_goals
      go_wp2_with fail
      go_meet
      refine ⟨_, _, ph, Ah, nh, ch, p1, A1, n1, c1, rfl, rfl, ?_⟩
      first | with_reducible exact st.fin1a st.k.num st.k.nt.nt.num | with_reducible exact st.fin1b st.k.num st.k.nt.nt.num | with_reducible exact st.fin2a st.k.num st.k.nt.nt.num | with_reducible exact st.fin2b st.k.num st.k.nt.nt.num | with_reducible exact st.fin3a st.k.num st.k.nt.nt.num | with_reducible exact st.fin3b st.k.num st.k.nt.nt.num | with_reducible exact st.alloc1.fin1a st.alloc1.k.num st.alloc1.k.nt.nt.num | with_reducible exact st.alloc1.fin1b st.alloc1.k.num st.alloc1.k.nt.nt.num | with_reducible exact st.alloc1.fin2a st.alloc1.k.num st.alloc1.k.nt.nt.num | with_reducible exact st.alloc1.fin2b st.alloc1.k.num st.alloc1.k.nt.nt.num | with_reducible exact st.alloc1.fin3a st.alloc1.k.num st.alloc1.k.nt.nt.num | with_reducible exact st.alloc1.fin3b st.alloc1.k.num st.alloc1.k.nt.nt.num | with_reducible exact st.alloc2.fin1a st.alloc2.k.num st.alloc2.k.nt.nt.num | with_reducible exact st.alloc2.fin1b st.alloc2.k.num st.alloc2.k.nt.nt.num | with_reducible exact st.alloc2.fin2a st.alloc2.k.num st.alloc2.k.nt.nt.num | with_reducible exact st.alloc2.fin2b st.alloc2.k.num st.alloc2.k.nt.nt.num | with_reducible exact st.alloc2.fin3a st.alloc2.k.num st.alloc2.k.nt.nt.num | with_reducible exact st.alloc2.fin3b st.alloc2.k.num st.alloc2.k.nt.nt.num | with_reducible exact st.drew.fin1a st.drew.k.num st.drew.k.nt.nt.num | with_reducible exact st.drew.fin1b st.drew.k.num st.drew.k.nt.nt.num | with_reducible exact st.drew.fin2a st.drew.k.num st.drew.k.nt.nt.num | with_reducible exact st.drew.fin2b st.drew.k.num st.drew.k.nt.nt.num | with_reducible exact st.drew.fin3a st.drew.k.num st.drew.k.nt.nt.num | with_reducible exact st.drew.fin3b st.drew.k.num st.drew.k.nt.nt.num | with_reducible exact st.alloc1.drew.fin1a st.alloc1.drew.k.num st.alloc1.drew.k.nt.nt.num | with_reducible exact st.alloc1.drew.fin1b st.alloc1.drew.k.num st.alloc1.drew.k.nt.nt.num | with_reducible exact st.alloc1.drew.fin2a st.alloc1.drew.k.num st.alloc1.drew.k.nt.nt.num | with_reducible exact st.alloc1.drew.fin2b st.alloc1.drew.k.num st.alloc1.drew.k.nt.nt.num | with_reducible exact st.alloc1.drew.fin3a st.alloc1.drew.k.num st.alloc1.drew.k.nt.nt.num | with_reducible exact st.alloc1.drew.fin3b st.alloc1.drew.k.num st.alloc1.drew.k.nt.nt.num | with_reducible exact st.alloc2.drew.fin1a st.alloc2.drew.k.num st.alloc2.drew.k.nt.nt.num | with_reducible exact st.alloc2.drew.fin1b st.alloc2.drew.k.num st.alloc2.drew.k.nt.nt.num | with_reducible exact st.alloc2.drew.fin2a st.alloc2.drew.k.num st.alloc2.drew.k.nt.nt.num | with_reducible exact st.alloc2.drew.fin2b st.alloc2.drew.k.num st.alloc2.drew.k.nt.nt.num | with_reducible exact st.alloc2.drew.fin3a st.alloc2.drew.k.num st.alloc2.drew.k.nt.nt.num | with_reducible exact st.alloc2.drew.fin3b st.alloc2.drew.k.num st.alloc2.drew.k.nt.nt.num | with_reducible exact (st.fin3a st.k.num st.k.nt.nt.num).below (Below.refl _ _).drew | with_reducible exact (st.fin3b st.k.num st.k.nt.nt.num).below (Below.refl _ _).drew
  case rest =>
  clear st
  obtain ⟨f, r, pf, Af, nf, cf, pr, Ar, nr, cr, rfl, rfl, s0⟩ := hcut
  have gf := s0.gg
  have gr := s0.gh
  have nfr := s0.ne
  have nf0 : f ≠ h := by omega
  have nr0 : r ≠ h := by omega
  have of0 := Ne.symm nf0
  have or0 := Ne.symm nr0
  have nf1 : f ≠ g + 1 := by omega
  have nr1 : r ≠ g + 1 := by omega
  have of1 := Ne.symm nf1
  have or1 := Ne.symm nr1
  have nf2 : f ≠ g := by omega
  have nr2 : r ≠ g := by omega
  have of2 := Ne.symm nf2
  have or2 := Ne.symm nr2
  have nf3 : f ≠ w.heap.size + 1 + 1 := by omega
  have nr3 : r ≠ w.heap.size + 1 + 1 := by omega
  have of3 := Ne.symm nf3
  have or3 := Ne.symm nr3
  have nf4 : f ≠ w.heap.size + 1 := by omega
  have nr4 : r ≠ w.heap.size + 1 := by omega
  have of4 := Ne.symm nf4
  have or4 := Ne.symm nr4
  have nf5 : f ≠ w.heap.size := by omega
  have nr5 : r ≠ w.heap.size := by omega
  have of5 := Ne.symm nf5
  have or5 := Ne.symm nr5
  obtain ⟨_, a0, a1, _, _⟩ := s0.k.tail.tail.tail.tail.tail.head
  go_wp2_with fail
  refine (SN.out _ s0.k.nt.nt.nt.num).mono ?_
  rintro e w5 ⟨rfl, k⟩
  replace s0 := s0.below k
  clear k a0 a1
  have onr := Ne.symm nfr
  obtain ⟨_, uc, ud, _, _⟩ := s0.k.head
  obtain ⟨_, ue, uf, _, _⟩ := s0.k.tail.tail.head
  obtain ⟨_, ug, uh, ui, uj⟩ := id s0.bq
  obtain ⟨_, uk, ul, um, un⟩ := id s0.br
  have s2r := Lib.hid (show (re + re).natAbs < 65536 ^ 10 by have := sr.out; rw [show (65536 : Nat) ^ 10 = 65536 ^ 9 * 65536 by decide]; omega)
  by_cases hn : sn < 0
  · go_wp2_with fail
    have s1 := (s0.setQ s0.k.nt.nt.num).setR (s0.k.num.set2 s0.bq.c0 p1 (.slice A1 n1 c1))
    go_cut [] (fun wx => DivD lq (BZ w [(h, ph, .slice Ah nh ch), (g + 1, p2, .slice A2 n2 c2), (g, p1, .slice A1 n1 c1), (w.heap.size + 1 + 1, false, .slice none 0 0), (w.heap.size + 1, q, .slice B m d), (w.heap.size, p, .slice A n c)] [(ph, Ah, nh, ch, lo + 1), (p2, A2, n2, c2, re), (p1, A1, n1, c1, lo), (p, A, n, c, x), (q, B, m, d, y)]) wx f r p1 A1 n1 c1 (lo) ph Ah nh ch (lo + 1))
    case first =>
      go_region
      all_goals
        go_wp2_with fail
        go_meet
        first | exact s1 | exact s1.below (Below.refl _ _).drew
    case rest =>
    clear s1 s0
    have s0 := hcut
    clear hcut
    go_wp2_with fail
    clear uc ud ue uf ug uh ui uj uk ul um un
    obtain ⟨_, uc, ud, _, _⟩ := s0.k.tail.head
    obtain ⟨_, ue, uf, _, _⟩ := s0.k.tail.tail.tail.tail.head
    go_cut [13] (fun v13 wx => v13 = .int .i64 hf ∧ DivD lq (BZ w [(h, ph, .slice Ah nh ch), (g + 1, p2, .slice A2 n2 c2), (g, p1, .slice A1 n1 c1), (w.heap.size + 1 + 1, false, .slice none 0 0), (w.heap.size + 1, q, .slice B m d), (w.heap.size, p, .slice A n c)] [(ph, Ah, nh, ch, lo + 1), (p2, A2, n2, c2, re), (p1, A1, n1, c1, lo), (p, A, n, c, x), (q, B, m, d, y)]) wx f r p1 A1 n1 c1 (lo) ph Ah nh ch (lo + 1))
    case first =>
      go_region_held3 (fun w' => w'.cell? ⟨g + 1, 0, none⟩ = some (.bool p2) ∧ w'.cell? ⟨g + 1, 1, none⟩ = some (.slice A2 n2 c2) ∧ w'.cell? ⟨w.heap.size + 1, 0, none⟩ = some (.bool q) ∧ w'.cell? ⟨w.heap.size + 1, 1, none⟩ = some (.slice B m d)) (first | (with_reducible exact ⟨s0.k.tail.head.c0, s0.k.tail.head.c1, s0.k.tail.tail.tail.tail.head.c0, s0.k.tail.tail.tail.tail.head.c1⟩) | (with_reducible exact ⟨(s0.below (Below.refl _ _).drew).k.tail.head.c0, (s0.below (Below.refl _ _).drew).k.tail.head.c1, (s0.below (Below.refl _ _).drew).k.tail.tail.tail.tail.head.c0, (s0.below (Below.refl _ _).drew).k.tail.tail.tail.tail.head.c1⟩) | go_keep)
        (first
          | (go_at_call 46; (with_reducible refine (add_any p2 p2 A2 A2 n2 n2 c2 c2 re re _ (by with_reducible first | exact s0.k.nt.num | exact (s0.below (Below.refl _ _).drew).k.nt.num) (by with_reducible first | exact s0.k.nt.num | exact (s0.below (Below.refl _ _).drew).k.nt.num) (by omega) (by omega)).mono ?_); rintro e x ⟨p9, A9, n9, c9, rfl, z9, k⟩
             have l9 := z9.small s2r.out
             with_reducible (first | replace s0 := s0.below k | replace s0 := (s0.below (Below.refl _ _).drew).below k)
             clear k
             obtain ⟨_, g0, g1, _, _⟩ := s0.k.tail.head
             obtain ⟨_, h0, h1, _, _⟩ := s0.k.tail.tail.tail.tail.head)
          | (go_at_call 48; (with_reducible refine (CM.out p9 A9 n9 c9 _ z9 (by with_reducible first | exact s0.k.nt.nt.nt.nt.num | exact (s0.below (Below.refl _ _).drew).k.nt.nt.nt.nt.num) (by omega)).mono ?_); rintro e x ⟨rfl, k⟩
             clear z9
             with_reducible (first | replace s0 := s0.below k | replace s0 := (s0.below (Below.refl _ _).drew).below k)
             clear k
             obtain ⟨_, g0, g1, _, _⟩ := s0.k.tail.head
             obtain ⟨_, h0, h1, _, _⟩ := s0.k.tail.tail.tail.tail.head))
      all_goals
        go_wp2_with fail
        go_meet
        first | exact ⟨rfl, s0⟩ | exact ⟨rfl, s0.below (Below.refl _ _).drew⟩
    case rest =>
    clear uc ud ue uf s0
    obtain ⟨rfl, s0⟩ := hcut
    obtain ⟨_, s0a, s0b, s0c, s0d⟩ := s0.k.tail.tail.tail.head
    obtain ⟨_, uc, ud, _, _⟩ := s0.k.head
    obtain ⟨_, ue, uf, _, _⟩ := s0.k.tail.tail.head
    obtain ⟨_, ug, uh, _, _⟩ := id s0.bq
    obtain ⟨_, uk, ul, _, _⟩ := id s0.br
    have hm : mode = 1 ∨ mode = 2 ∨ mode = 3 ∨ mode = 4 ∨ mode = 5 ∨ mode = 6 ∨ mode = 7 ∨ mode = 8 ∨ mode = 9 := by omega
    clear m1 m9 m0 m8
    rcases hm with rfl | rfl | rfl | rfl | rfl | rfl | rfl | rfl | rfl
    · go_wp2
      have P2 := (s0.k.tail.tail.tail.head).self2 ph (.slice Ah nh ch)
      have Z2 := (s0.k.num).set2 (s0.k.tail.tail.tail.head).c0 ph (.slice Ah nh ch)
      have HB := (s0.k.hb.setCell (p := ⟨w.heap.size + 1 + 1, 0, none⟩) (by show _ ≤ w.heap.size + 1 + 1; omega) (.bool ph)).setCell (p := ⟨w.heap.size + 1 + 1, 1, none⟩) (by show _ ≤ w.heap.size + 1 + 1; omega) (.slice Ah nh ch)
      exact bodyPost_ret (v := .tuple #[.agg #[.bool ph, .slice Ah nh ch], .bool true]) (by simp [results, Tryz.results21, go_sem, P2.c0, P2.c1]) rfl (by rw [pk_15 (lo := lo) (sn := sn) (hf := hf) (m := 1) (by omega) (by omega)]; exact ⟨ph, Ah, nh, ch, rfl, Z2, HB⟩)
    · go_wp2
      have P2 := (s0.k.tail.tail.tail.head).self2 p1 (.slice A1 n1 c1)
      have Z2 := (s0.k.nt.nt.num).set2 (s0.k.tail.tail.tail.head).c0 p1 (.slice A1 n1 c1)
      have HB := (s0.k.hb.setCell (p := ⟨w.heap.size + 1 + 1, 0, none⟩) (by show _ ≤ w.heap.size + 1 + 1; omega) (.bool p1)).setCell (p := ⟨w.heap.size + 1 + 1, 1, none⟩) (by show _ ≤ w.heap.size + 1 + 1; omega) (.slice A1 n1 c1)
      exact bodyPost_ret (v := .tuple #[.agg #[.bool p1, .slice A1 n1 c1], .bool true]) (by simp [results, Tryz.results21, go_sem, P2.c0, P2.c1]) rfl (by rw [pk_26 (lo := lo) (sn := sn) (hf := hf) (m := 2) (by omega) (by omega)]; exact ⟨p1, A1, n1, c1, rfl, Z2, HB⟩)
    · go_wp2
      have P2 := (s0.k.tail.tail.tail.head).self2 p1 (.slice A1 n1 c1)
      have Z2 := (s0.zq).set2 (s0.k.tail.tail.tail.head).c0 p1 (.slice A1 n1 c1)
      have HB := (s0.k.hb.setCell (p := ⟨w.heap.size + 1 + 1, 0, none⟩) (by show _ ≤ w.heap.size + 1 + 1; omega) (.bool p1)).setCell (p := ⟨w.heap.size + 1 + 1, 1, none⟩) (by show _ ≤ w.heap.size + 1 + 1; omega) (.slice A1 n1 c1)
      exact bodyPost_ret (v := .tuple #[.agg #[.bool p1, .slice A1 n1 c1], .bool true]) (by simp [results, Tryz.results21, go_sem, P2.c0, P2.c1]) rfl (by rw [pk_37n (lo := lo) (sn := sn) (hf := hf) (m := 3) (by omega) (by omega) (by omega)]; exact ⟨p1, A1, n1, c1, rfl, Z2, HB⟩)
    · go_wp2
      have P2 := (s0.k.tail.tail.tail.head).self2 ph (.slice Ah nh ch)
      have Z2 := (s0.zr).set2 (s0.k.tail.tail.tail.head).c0 ph (.slice Ah nh ch)
      have HB := (s0.k.hb.setCell (p := ⟨w.heap.size + 1 + 1, 0, none⟩) (by show _ ≤ w.heap.size + 1 + 1; omega) (.bool ph)).setCell (p := ⟨w.heap.size + 1 + 1, 1, none⟩) (by show _ ≤ w.heap.size + 1 + 1; omega) (.slice Ah nh ch)
      exact bodyPost_ret (v := .tuple #[.agg #[.bool ph, .slice Ah nh ch], .bool true]) (by simp [results, Tryz.results21, go_sem, P2.c0, P2.c1]) rfl (by rw [pk_48n (lo := lo) (sn := sn) (hf := hf) (m := 4) (by omega) (by omega) (by omega)]; exact ⟨ph, Ah, nh, ch, rfl, Z2, HB⟩)
    · by_cases ha : hf < 0
      · go_wp2
        have P2 := (s0.k.tail.tail.tail.head).self2 p1 (.slice A1 n1 c1)
        have Z2 := (s0.k.nt.nt.num).set2 (s0.k.tail.tail.tail.head).c0 p1 (.slice A1 n1 c1)
        have HB := (s0.k.hb.setCell (p := ⟨w.heap.size + 1 + 1, 0, none⟩) (by show _ ≤ w.heap.size + 1 + 1; omega) (.bool p1)).setCell (p := ⟨w.heap.size + 1 + 1, 1, none⟩) (by show _ ≤ w.heap.size + 1 + 1; omega) (.slice A1 n1 c1)
        exact bodyPost_ret (v := .tuple #[.agg #[.bool p1, .slice A1 n1 c1], .bool true]) (by simp [results, Tryz.results21, go_sem, P2.c0, P2.c1]) rfl (by rw [pk_low (lo := lo) (sn := sn) (hf := hf) (m := 5) (by omega) (by omega)]; exact ⟨p1, A1, n1, c1, rfl, Z2, HB⟩)
      · by_cases hb : 0 < hf
        · go_wp2
          have P2 := (s0.k.tail.tail.tail.head).self2 ph (.slice Ah nh ch)
          have Z2 := (s0.k.num).set2 (s0.k.tail.tail.tail.head).c0 ph (.slice Ah nh ch)
          have HB := (s0.k.hb.setCell (p := ⟨w.heap.size + 1 + 1, 0, none⟩) (by show _ ≤ w.heap.size + 1 + 1; omega) (.bool ph)).setCell (p := ⟨w.heap.size + 1 + 1, 1, none⟩) (by show _ ≤ w.heap.size + 1 + 1; omega) (.slice Ah nh ch)
          exact bodyPost_ret (v := .tuple #[.agg #[.bool ph, .slice Ah nh ch], .bool true]) (by simp [results, Tryz.results21, go_sem, P2.c0, P2.c1]) rfl (by rw [pk_high (lo := lo) (sn := sn) (hf := hf) (m := 5) (by omega) (by omega)]; exact ⟨ph, Ah, nh, ch, rfl, Z2, HB⟩)
        · go_wp2
          have P2 := (s0.k.tail.tail.tail.head).self2 ph (.slice Ah nh ch)
          have Z2 := (s0.k.num).set2 (s0.k.tail.tail.tail.head).c0 ph (.slice Ah nh ch)
          have HB := (s0.k.hb.setCell (p := ⟨w.heap.size + 1 + 1, 0, none⟩) (by show _ ≤ w.heap.size + 1 + 1; omega) (.bool ph)).setCell (p := ⟨w.heap.size + 1 + 1, 1, none⟩) (by show _ ≤ w.heap.size + 1 + 1; omega) (.slice Ah nh ch)
          exact bodyPost_ret (v := .tuple #[.agg #[.bool ph, .slice Ah nh ch], .bool true]) (by simp [results, Tryz.results21, go_sem, P2.c0, P2.c1]) rfl (by rw [pk_15 (lo := lo) (sn := sn) (hf := hf) (m := 5) (by omega) (by omega)]; exact ⟨ph, Ah, nh, ch, rfl, Z2, HB⟩)
    · by_cases ha : hf < 0
      · go_wp2
        have P2 := (s0.k.tail.tail.tail.head).self2 p1 (.slice A1 n1 c1)
        have Z2 := (s0.k.nt.nt.num).set2 (s0.k.tail.tail.tail.head).c0 p1 (.slice A1 n1 c1)
        have HB := (s0.k.hb.setCell (p := ⟨w.heap.size + 1 + 1, 0, none⟩) (by show _ ≤ w.heap.size + 1 + 1; omega) (.bool p1)).setCell (p := ⟨w.heap.size + 1 + 1, 1, none⟩) (by show _ ≤ w.heap.size + 1 + 1; omega) (.slice A1 n1 c1)
        exact bodyPost_ret (v := .tuple #[.agg #[.bool p1, .slice A1 n1 c1], .bool true]) (by simp [results, Tryz.results21, go_sem, P2.c0, P2.c1]) rfl (by rw [pk_low (lo := lo) (sn := sn) (hf := hf) (m := 6) (by omega) (by omega)]; exact ⟨p1, A1, n1, c1, rfl, Z2, HB⟩)
      · by_cases hb : 0 < hf
        · go_wp2
          have P2 := (s0.k.tail.tail.tail.head).self2 ph (.slice Ah nh ch)
          have Z2 := (s0.k.num).set2 (s0.k.tail.tail.tail.head).c0 ph (.slice Ah nh ch)
          have HB := (s0.k.hb.setCell (p := ⟨w.heap.size + 1 + 1, 0, none⟩) (by show _ ≤ w.heap.size + 1 + 1; omega) (.bool ph)).setCell (p := ⟨w.heap.size + 1 + 1, 1, none⟩) (by show _ ≤ w.heap.size + 1 + 1; omega) (.slice Ah nh ch)
          exact bodyPost_ret (v := .tuple #[.agg #[.bool ph, .slice Ah nh ch], .bool true]) (by simp [results, Tryz.results21, go_sem, P2.c0, P2.c1]) rfl (by rw [pk_high (lo := lo) (sn := sn) (hf := hf) (m := 6) (by omega) (by omega)]; exact ⟨ph, Ah, nh, ch, rfl, Z2, HB⟩)
        · go_wp2
          have P2 := (s0.k.tail.tail.tail.head).self2 p1 (.slice A1 n1 c1)
          have Z2 := (s0.k.nt.nt.num).set2 (s0.k.tail.tail.tail.head).c0 p1 (.slice A1 n1 c1)
          have HB := (s0.k.hb.setCell (p := ⟨w.heap.size + 1 + 1, 0, none⟩) (by show _ ≤ w.heap.size + 1 + 1; omega) (.bool p1)).setCell (p := ⟨w.heap.size + 1 + 1, 1, none⟩) (by show _ ≤ w.heap.size + 1 + 1; omega) (.slice A1 n1 c1)
          exact bodyPost_ret (v := .tuple #[.agg #[.bool p1, .slice A1 n1 c1], .bool true]) (by simp [results, Tryz.results21, go_sem, P2.c0, P2.c1]) rfl (by rw [pk_26 (lo := lo) (sn := sn) (hf := hf) (m := 6) (by omega) (by omega)]; exact ⟨p1, A1, n1, c1, rfl, Z2, HB⟩)
    · by_cases ha : hf < 0
      · go_wp2
        have P2 := (s0.k.tail.tail.tail.head).self2 p1 (.slice A1 n1 c1)
        have Z2 := (s0.k.nt.nt.num).set2 (s0.k.tail.tail.tail.head).c0 p1 (.slice A1 n1 c1)
        have HB := (s0.k.hb.setCell (p := ⟨w.heap.size + 1 + 1, 0, none⟩) (by show _ ≤ w.heap.size + 1 + 1; omega) (.bool p1)).setCell (p := ⟨w.heap.size + 1 + 1, 1, none⟩) (by show _ ≤ w.heap.size + 1 + 1; omega) (.slice A1 n1 c1)
        exact bodyPost_ret (v := .tuple #[.agg #[.bool p1, .slice A1 n1 c1], .bool true]) (by simp [results, Tryz.results21, go_sem, P2.c0, P2.c1]) rfl (by rw [pk_low (lo := lo) (sn := sn) (hf := hf) (m := 7) (by omega) (by omega)]; exact ⟨p1, A1, n1, c1, rfl, Z2, HB⟩)
      · by_cases hb : 0 < hf
        · go_wp2
          have P2 := (s0.k.tail.tail.tail.head).self2 ph (.slice Ah nh ch)
          have Z2 := (s0.k.num).set2 (s0.k.tail.tail.tail.head).c0 ph (.slice Ah nh ch)
          have HB := (s0.k.hb.setCell (p := ⟨w.heap.size + 1 + 1, 0, none⟩) (by show _ ≤ w.heap.size + 1 + 1; omega) (.bool ph)).setCell (p := ⟨w.heap.size + 1 + 1, 1, none⟩) (by show _ ≤ w.heap.size + 1 + 1; omega) (.slice Ah nh ch)
          exact bodyPost_ret (v := .tuple #[.agg #[.bool ph, .slice Ah nh ch], .bool true]) (by simp [results, Tryz.results21, go_sem, P2.c0, P2.c1]) rfl (by rw [pk_high (lo := lo) (sn := sn) (hf := hf) (m := 7) (by omega) (by omega)]; exact ⟨ph, Ah, nh, ch, rfl, Z2, HB⟩)
        · go_wp2
          have P2 := (s0.k.tail.tail.tail.head).self2 p1 (.slice A1 n1 c1)
          have Z2 := (s0.zq).set2 (s0.k.tail.tail.tail.head).c0 p1 (.slice A1 n1 c1)
          have HB := (s0.k.hb.setCell (p := ⟨w.heap.size + 1 + 1, 0, none⟩) (by show _ ≤ w.heap.size + 1 + 1; omega) (.bool p1)).setCell (p := ⟨w.heap.size + 1 + 1, 1, none⟩) (by show _ ≤ w.heap.size + 1 + 1; omega) (.slice A1 n1 c1)
          exact bodyPost_ret (v := .tuple #[.agg #[.bool p1, .slice A1 n1 c1], .bool true]) (by simp [results, Tryz.results21, go_sem, P2.c0, P2.c1]) rfl (by rw [pk_37n (lo := lo) (sn := sn) (hf := hf) (m := 7) (by omega) (by omega) (by omega)]; exact ⟨p1, A1, n1, c1, rfl, Z2, HB⟩)
    · by_cases ha : hf < 0
      · go_wp2
        have P2 := (s0.k.tail.tail.tail.head).self2 p1 (.slice A1 n1 c1)
        have Z2 := (s0.k.nt.nt.num).set2 (s0.k.tail.tail.tail.head).c0 p1 (.slice A1 n1 c1)
        have HB := (s0.k.hb.setCell (p := ⟨w.heap.size + 1 + 1, 0, none⟩) (by show _ ≤ w.heap.size + 1 + 1; omega) (.bool p1)).setCell (p := ⟨w.heap.size + 1 + 1, 1, none⟩) (by show _ ≤ w.heap.size + 1 + 1; omega) (.slice A1 n1 c1)
        exact bodyPost_ret (v := .tuple #[.agg #[.bool p1, .slice A1 n1 c1], .bool true]) (by simp [results, Tryz.results21, go_sem, P2.c0, P2.c1]) rfl (by rw [pk_low (lo := lo) (sn := sn) (hf := hf) (m := 8) (by omega) (by omega)]; exact ⟨p1, A1, n1, c1, rfl, Z2, HB⟩)
      · by_cases hb : 0 < hf
        · go_wp2
          have P2 := (s0.k.tail.tail.tail.head).self2 ph (.slice Ah nh ch)
          have Z2 := (s0.k.num).set2 (s0.k.tail.tail.tail.head).c0 ph (.slice Ah nh ch)
          have HB := (s0.k.hb.setCell (p := ⟨w.heap.size + 1 + 1, 0, none⟩) (by show _ ≤ w.heap.size + 1 + 1; omega) (.bool ph)).setCell (p := ⟨w.heap.size + 1 + 1, 1, none⟩) (by show _ ≤ w.heap.size + 1 + 1; omega) (.slice Ah nh ch)
          exact bodyPost_ret (v := .tuple #[.agg #[.bool ph, .slice Ah nh ch], .bool true]) (by simp [results, Tryz.results21, go_sem, P2.c0, P2.c1]) rfl (by rw [pk_high (lo := lo) (sn := sn) (hf := hf) (m := 8) (by omega) (by omega)]; exact ⟨ph, Ah, nh, ch, rfl, Z2, HB⟩)
        · go_wp2
          have P2 := (s0.k.tail.tail.tail.head).self2 ph (.slice Ah nh ch)
          have Z2 := (s0.zr).set2 (s0.k.tail.tail.tail.head).c0 ph (.slice Ah nh ch)
          have HB := (s0.k.hb.setCell (p := ⟨w.heap.size + 1 + 1, 0, none⟩) (by show _ ≤ w.heap.size + 1 + 1; omega) (.bool ph)).setCell (p := ⟨w.heap.size + 1 + 1, 1, none⟩) (by show _ ≤ w.heap.size + 1 + 1; omega) (.slice Ah nh ch)
          exact bodyPost_ret (v := .tuple #[.agg #[.bool ph, .slice Ah nh ch], .bool true]) (by simp [results, Tryz.results21, go_sem, P2.c0, P2.c1]) rfl (by rw [pk_48n (lo := lo) (sn := sn) (hf := hf) (m := 8) (by omega) (by omega) (by omega)]; exact ⟨ph, Ah, nh, ch, rfl, Z2, HB⟩)
    · by_cases ha : hf < 0
      · go_wp2
        have P2 := (s0.k.tail.tail.tail.head).self2 p1 (.slice A1 n1 c1)
        have Z2 := (s0.k.nt.nt.num).set2 (s0.k.tail.tail.tail.head).c0 p1 (.slice A1 n1 c1)
        have HB := (s0.k.hb.setCell (p := ⟨w.heap.size + 1 + 1, 0, none⟩) (by show _ ≤ w.heap.size + 1 + 1; omega) (.bool p1)).setCell (p := ⟨w.heap.size + 1 + 1, 1, none⟩) (by show _ ≤ w.heap.size + 1 + 1; omega) (.slice A1 n1 c1)
        exact bodyPost_ret (v := .tuple #[.agg #[.bool p1, .slice A1 n1 c1], .bool true]) (by simp [results, Tryz.results21, go_sem, P2.c0, P2.c1]) rfl (by rw [pk_low (lo := lo) (sn := sn) (hf := hf) (m := 9) (by omega) (by omega)]; exact ⟨p1, A1, n1, c1, rfl, Z2, HB⟩)
      · by_cases hb : 0 < hf
        · go_wp2
          have P2 := (s0.k.tail.tail.tail.head).self2 ph (.slice Ah nh ch)
          have Z2 := (s0.k.num).set2 (s0.k.tail.tail.tail.head).c0 ph (.slice Ah nh ch)
          have HB := (s0.k.hb.setCell (p := ⟨w.heap.size + 1 + 1, 0, none⟩) (by show _ ≤ w.heap.size + 1 + 1; omega) (.bool ph)).setCell (p := ⟨w.heap.size + 1 + 1, 1, none⟩) (by show _ ≤ w.heap.size + 1 + 1; omega) (.slice Ah nh ch)
          exact bodyPost_ret (v := .tuple #[.agg #[.bool ph, .slice Ah nh ch], .bool true]) (by simp [results, Tryz.results21, go_sem, P2.c0, P2.c1]) rfl (by rw [pk_high (lo := lo) (sn := sn) (hf := hf) (m := 9) (by omega) (by omega)]; exact ⟨ph, Ah, nh, ch, rfl, Z2, HB⟩)
        · have FE := first_even lo
          by_cases hn0 : n1 = 0
          · have he : lo % 2 = 0 := by
              have hd := (s0.k.nt.nt.num).ds.len
              rw [← FE, List.getD_eq_getElem?_getD, List.getElem?_eq_none (by omega)]; rfl
            subst hn0
            clear FE
            have HE := Lib.hid he
            clear he
            go_wp2
            have P2 := (s0.k.tail.tail.tail.head).self2 p1 (.slice A1 0 c1)
            have Z2 := (s0.k.nt.nt.num).set2 (s0.k.tail.tail.tail.head).c0 p1 (.slice A1 0 c1)
            have HB := (s0.k.hb.setCell (p := ⟨w.heap.size + 1 + 1, 0, none⟩) (by show _ ≤ w.heap.size + 1 + 1; omega) (.bool p1)).setCell (p := ⟨w.heap.size + 1 + 1, 1, none⟩) (by show _ ≤ w.heap.size + 1 + 1; omega) (.slice A1 0 c1)
            exact bodyPost_ret (v := .tuple #[.agg #[.bool p1, .slice A1 0 c1], .bool true]) (by simp [results, Tryz.results21, go_sem, P2.c0, P2.c1]) rfl (by rw [pk_9e (lo := lo) (sn := sn) (hf := hf) (by omega) (by omega) HE.out]; exact ⟨p1, A1, 0, c1, rfl, Z2, HB⟩)
          · obtain ⟨gd, hA, hgd, hcd⟩ := (s0.k.nt.nt.num).ds.cells (by omega)
            have hd0 := hcd 0 (by omega)
            clear hcd
            subst hA
            have hn1 : ((n1 : Int) == 0) = false := by rw [beq_eq_false_iff_ne]; omega
            have hn2 : (0 : Int) < (n1 : Int) := by omega
            generalize (digs lo.natAbs).getD 0 0 = dg at *
            have tm : ((dg : Nat) : Int).tmod 2 = ((dg : Nat) : Int) % 2 := Int.tmod_eq_emod_of_nonneg (by omega)
            by_cases he : lo % 2 = 0
            · have d0 : ((dg : Nat) : Int).tmod 2 = 0 := by omega
              have HE := Lib.hid he
              clear he FE tm
              go_wp2
              have P2 := (s0.k.tail.tail.tail.head).self2 p1 (.slice (some ⟨gd, 0, none⟩) n1 c1)
              have Z2 := (s0.k.nt.nt.num).set2 (s0.k.tail.tail.tail.head).c0 p1 (.slice (some ⟨gd, 0, none⟩) n1 c1)
              have HB := (s0.k.hb.setCell (p := ⟨w.heap.size + 1 + 1, 0, none⟩) (by show _ ≤ w.heap.size + 1 + 1; omega) (.bool p1)).setCell (p := ⟨w.heap.size + 1 + 1, 1, none⟩) (by show _ ≤ w.heap.size + 1 + 1; omega) (.slice (some ⟨gd, 0, none⟩) n1 c1)
              exact bodyPost_ret (v := .tuple #[.agg #[.bool p1, .slice (some ⟨gd, 0, none⟩) n1 c1], .bool true]) (by simp [results, Tryz.results21, go_sem, P2.c0, P2.c1]) rfl (by rw [pk_9e (lo := lo) (sn := sn) (hf := hf) (by omega) (by omega) HE.out]; exact ⟨p1, (some ⟨gd, 0, none⟩), n1, c1, rfl, Z2, HB⟩)
            · have d0 : ((dg : Nat) : Int).tmod 2 = 1 := by omega
              have HE := Lib.hid he
              clear he FE tm
              go_wp2
              have P2 := (s0.k.tail.tail.tail.head).self2 ph (.slice Ah nh ch)
              have Z2 := (s0.k.num).set2 (s0.k.tail.tail.tail.head).c0 ph (.slice Ah nh ch)
              have HB := (s0.k.hb.setCell (p := ⟨w.heap.size + 1 + 1, 0, none⟩) (by show _ ≤ w.heap.size + 1 + 1; omega) (.bool ph)).setCell (p := ⟨w.heap.size + 1 + 1, 1, none⟩) (by show _ ≤ w.heap.size + 1 + 1; omega) (.slice Ah nh ch)
              exact bodyPost_ret (v := .tuple #[.agg #[.bool ph, .slice Ah nh ch], .bool true]) (by simp [results, Tryz.results21, go_sem, P2.c0, P2.c1]) rfl (by rw [pk_9o (lo := lo) (sn := sn) (hf := hf) (by omega) (by omega) HE.out]; exact ⟨ph, Ah, nh, ch, rfl, Z2, HB⟩)
  · have s1 := s0
    clear s0
    have s0 : DivD lq (BZ w [(h, ph, .slice Ah nh ch), (g + 1, p2, .slice A2 n2 c2), (g, p1, .slice A1 n1 c1), (w.heap.size + 1 + 1, false, .slice none 0 0), (w.heap.size + 1, q, .slice B m d), (w.heap.size, p, .slice A n c)] [(ph, Ah, nh, ch, lo + 1), (p2, A2, n2, c2, re), (p1, A1, n1, c1, lo), (p, A, n, c, x), (q, B, m, d, y)]) w5 f r pf Af nf cf (lo + 1) pr Ar nr cr lo := s1
    clear s1
    go_wp2_with fail
    clear uc ud ue uf ug uh ui uj uk ul um un
    obtain ⟨_, uc, ud, _, _⟩ := s0.k.tail.head
    obtain ⟨_, ue, uf, _, _⟩ := s0.k.tail.tail.tail.tail.head
    go_cut [13] (fun v13 wx => v13 = .int .i64 hf ∧ DivD lq (BZ w [(h, ph, .slice Ah nh ch), (g + 1, p2, .slice A2 n2 c2), (g, p1, .slice A1 n1 c1), (w.heap.size + 1 + 1, false, .slice none 0 0), (w.heap.size + 1, q, .slice B m d), (w.heap.size, p, .slice A n c)] [(ph, Ah, nh, ch, lo + 1), (p2, A2, n2, c2, re), (p1, A1, n1, c1, lo), (p, A, n, c, x), (q, B, m, d, y)]) wx f r pf Af nf cf (lo + 1) pr Ar nr cr (lo))
    case first =>
      go_region_held3 (fun w' => w'.cell? ⟨g + 1, 0, none⟩ = some (.bool p2) ∧ w'.cell? ⟨g + 1, 1, none⟩ = some (.slice A2 n2 c2) ∧ w'.cell? ⟨w.heap.size + 1, 0, none⟩ = some (.bool q) ∧ w'.cell? ⟨w.heap.size + 1, 1, none⟩ = some (.slice B m d)) (first | (with_reducible exact ⟨s0.k.tail.head.c0, s0.k.tail.head.c1, s0.k.tail.tail.tail.tail.head.c0, s0.k.tail.tail.tail.tail.head.c1⟩) | (with_reducible exact ⟨(s0.below (Below.refl _ _).drew).k.tail.head.c0, (s0.below (Below.refl _ _).drew).k.tail.head.c1, (s0.below (Below.refl _ _).drew).k.tail.tail.tail.tail.head.c0, (s0.below (Below.refl _ _).drew).k.tail.tail.tail.tail.head.c1⟩) | go_keep)
        (first
          | (go_at_call 46; (with_reducible refine (add_any p2 p2 A2 A2 n2 n2 c2 c2 re re _ (by with_reducible first | exact s0.k.nt.num | exact (s0.below (Below.refl _ _).drew).k.nt.num) (by with_reducible first | exact s0.k.nt.num | exact (s0.below (Below.refl _ _).drew).k.nt.num) (by omega) (by omega)).mono ?_); rintro e x ⟨p9, A9, n9, c9, rfl, z9, k⟩
             have l9 := z9.small s2r.out
             with_reducible (first | replace s0 := s0.below k | replace s0 := (s0.below (Below.refl _ _).drew).below k)
             clear k
             obtain ⟨_, g0, g1, _, _⟩ := s0.k.tail.head
             obtain ⟨_, h0, h1, _, _⟩ := s0.k.tail.tail.tail.tail.head)
          | (go_at_call 48; (with_reducible refine (CM.out p9 A9 n9 c9 _ z9 (by with_reducible first | exact s0.k.nt.nt.nt.nt.num | exact (s0.below (Below.refl _ _).drew).k.nt.nt.nt.nt.num) (by omega)).mono ?_); rintro e x ⟨rfl, k⟩
             clear z9
             with_reducible (first | replace s0 := s0.below k | replace s0 := (s0.below (Below.refl _ _).drew).below k)
             clear k
             obtain ⟨_, g0, g1, _, _⟩ := s0.k.tail.head
             obtain ⟨_, h0, h1, _, _⟩ := s0.k.tail.tail.tail.tail.head))
      all_goals
        go_wp2_with fail
        go_meet
        first | exact ⟨rfl, s0⟩ | exact ⟨rfl, s0.below (Below.refl _ _).drew⟩
    case rest =>
    clear uc ud ue uf s0
    obtain ⟨rfl, s0⟩ := hcut
    obtain ⟨_, s0a, s0b, s0c, s0d⟩ := s0.k.tail.tail.tail.head
    obtain ⟨_, uc, ud, _, _⟩ := s0.k.head
    obtain ⟨_, ue, uf, _, _⟩ := s0.k.tail.tail.head
    obtain ⟨_, ug, uh, _, _⟩ := id s0.bq
    obtain ⟨_, uk, ul, _, _⟩ := id s0.br
    have hm : mode = 1 ∨ mode = 2 ∨ mode = 3 ∨ mode = 4 ∨ mode = 5 ∨ mode = 6 ∨ mode = 7 ∨ mode = 8 ∨ mode = 9 := by omega
    clear m1 m9 m0 m8
    rcases hm with rfl | rfl | rfl | rfl | rfl | rfl | rfl | rfl | rfl
    · go_wp2
      have P2 := (s0.k.tail.tail.tail.head).self2 ph (.slice Ah nh ch)
      have Z2 := (s0.k.num).set2 (s0.k.tail.tail.tail.head).c0 ph (.slice Ah nh ch)
      have HB := (s0.k.hb.setCell (p := ⟨w.heap.size + 1 + 1, 0, none⟩) (by show _ ≤ w.heap.size + 1 + 1; omega) (.bool ph)).setCell (p := ⟨w.heap.size + 1 + 1, 1, none⟩) (by show _ ≤ w.heap.size + 1 + 1; omega) (.slice Ah nh ch)
      exact bodyPost_ret (v := .tuple #[.agg #[.bool ph, .slice Ah nh ch], .bool true]) (by simp [results, Tryz.results21, go_sem, P2.c0, P2.c1]) rfl (by rw [pk_15 (lo := lo) (sn := sn) (hf := hf) (m := 1) (by omega) (by omega)]; exact ⟨ph, Ah, nh, ch, rfl, Z2, HB⟩)
    · go_wp2
      have P2 := (s0.k.tail.tail.tail.head).self2 p1 (.slice A1 n1 c1)
      have Z2 := (s0.k.nt.nt.num).set2 (s0.k.tail.tail.tail.head).c0 p1 (.slice A1 n1 c1)
      have HB := (s0.k.hb.setCell (p := ⟨w.heap.size + 1 + 1, 0, none⟩) (by show _ ≤ w.heap.size + 1 + 1; omega) (.bool p1)).setCell (p := ⟨w.heap.size + 1 + 1, 1, none⟩) (by show _ ≤ w.heap.size + 1 + 1; omega) (.slice A1 n1 c1)
      exact bodyPost_ret (v := .tuple #[.agg #[.bool p1, .slice A1 n1 c1], .bool true]) (by simp [results, Tryz.results21, go_sem, P2.c0, P2.c1]) rfl (by rw [pk_26 (lo := lo) (sn := sn) (hf := hf) (m := 2) (by omega) (by omega)]; exact ⟨p1, A1, n1, c1, rfl, Z2, HB⟩)
    · go_wp2
      have P2 := (s0.k.tail.tail.tail.head).self2 pf (.slice Af nf cf)
      have Z2 := (s0.zq).set2 (s0.k.tail.tail.tail.head).c0 pf (.slice Af nf cf)
      have HB := (s0.k.hb.setCell (p := ⟨w.heap.size + 1 + 1, 0, none⟩) (by show _ ≤ w.heap.size + 1 + 1; omega) (.bool pf)).setCell (p := ⟨w.heap.size + 1 + 1, 1, none⟩) (by show _ ≤ w.heap.size + 1 + 1; omega) (.slice Af nf cf)
      exact bodyPost_ret (v := .tuple #[.agg #[.bool pf, .slice Af nf cf], .bool true]) (by simp [results, Tryz.results21, go_sem, P2.c0, P2.c1]) rfl (by rw [pk_37p (lo := lo) (sn := sn) (hf := hf) (m := 3) (by omega) (by omega) (by omega)]; exact ⟨pf, Af, nf, cf, rfl, Z2, HB⟩)
    · go_wp2
      have P2 := (s0.k.tail.tail.tail.head).self2 pr (.slice Ar nr cr)
      have Z2 := (s0.zr).set2 (s0.k.tail.tail.tail.head).c0 pr (.slice Ar nr cr)
      have HB := (s0.k.hb.setCell (p := ⟨w.heap.size + 1 + 1, 0, none⟩) (by show _ ≤ w.heap.size + 1 + 1; omega) (.bool pr)).setCell (p := ⟨w.heap.size + 1 + 1, 1, none⟩) (by show _ ≤ w.heap.size + 1 + 1; omega) (.slice Ar nr cr)
      exact bodyPost_ret (v := .tuple #[.agg #[.bool pr, .slice Ar nr cr], .bool true]) (by simp [results, Tryz.results21, go_sem, P2.c0, P2.c1]) rfl (by rw [pk_48p (lo := lo) (sn := sn) (hf := hf) (m := 4) (by omega) (by omega) (by omega)]; exact ⟨pr, Ar, nr, cr, rfl, Z2, HB⟩)
    · by_cases ha : hf < 0
      · go_wp2
        have P2 := (s0.k.tail.tail.tail.head).self2 p1 (.slice A1 n1 c1)
        have Z2 := (s0.k.nt.nt.num).set2 (s0.k.tail.tail.tail.head).c0 p1 (.slice A1 n1 c1)
        have HB := (s0.k.hb.setCell (p := ⟨w.heap.size + 1 + 1, 0, none⟩) (by show _ ≤ w.heap.size + 1 + 1; omega) (.bool p1)).setCell (p := ⟨w.heap.size + 1 + 1, 1, none⟩) (by show _ ≤ w.heap.size + 1 + 1; omega) (.slice A1 n1 c1)
        exact bodyPost_ret (v := .tuple #[.agg #[.bool p1, .slice A1 n1 c1], .bool true]) (by simp [results, Tryz.results21, go_sem, P2.c0, P2.c1]) rfl (by rw [pk_low (lo := lo) (sn := sn) (hf := hf) (m := 5) (by omega) (by omega)]; exact ⟨p1, A1, n1, c1, rfl, Z2, HB⟩)
      · by_cases hb : 0 < hf
        · go_wp2
          have P2 := (s0.k.tail.tail.tail.head).self2 ph (.slice Ah nh ch)
          have Z2 := (s0.k.num).set2 (s0.k.tail.tail.tail.head).c0 ph (.slice Ah nh ch)
          have HB := (s0.k.hb.setCell (p := ⟨w.heap.size + 1 + 1, 0, none⟩) (by show _ ≤ w.heap.size + 1 + 1; omega) (.bool ph)).setCell (p := ⟨w.heap.size + 1 + 1, 1, none⟩) (by show _ ≤ w.heap.size + 1 + 1; omega) (.slice Ah nh ch)
          exact bodyPost_ret (v := .tuple #[.agg #[.bool ph, .slice Ah nh ch], .bool true]) (by simp [results, Tryz.results21, go_sem, P2.c0, P2.c1]) rfl (by rw [pk_high (lo := lo) (sn := sn) (hf := hf) (m := 5) (by omega) (by omega)]; exact ⟨ph, Ah, nh, ch, rfl, Z2, HB⟩)
        · go_wp2
          have P2 := (s0.k.tail.tail.tail.head).self2 ph (.slice Ah nh ch)
          have Z2 := (s0.k.num).set2 (s0.k.tail.tail.tail.head).c0 ph (.slice Ah nh ch)
          have HB := (s0.k.hb.setCell (p := ⟨w.heap.size + 1 + 1, 0, none⟩) (by show _ ≤ w.heap.size + 1 + 1; omega) (.bool ph)).setCell (p := ⟨w.heap.size + 1 + 1, 1, none⟩) (by show _ ≤ w.heap.size + 1 + 1; omega) (.slice Ah nh ch)
          exact bodyPost_ret (v := .tuple #[.agg #[.bool ph, .slice Ah nh ch], .bool true]) (by simp [results, Tryz.results21, go_sem, P2.c0, P2.c1]) rfl (by rw [pk_15 (lo := lo) (sn := sn) (hf := hf) (m := 5) (by omega) (by omega)]; exact ⟨ph, Ah, nh, ch, rfl, Z2, HB⟩)
    · by_cases ha : hf < 0
      · go_wp2
        have P2 := (s0.k.tail.tail.tail.head).self2 p1 (.slice A1 n1 c1)
        have Z2 := (s0.k.nt.nt.num).set2 (s0.k.tail.tail.tail.head).c0 p1 (.slice A1 n1 c1)
        have HB := (s0.k.hb.setCell (p := ⟨w.heap.size + 1 + 1, 0, none⟩) (by show _ ≤ w.heap.size + 1 + 1; omega) (.bool p1)).setCell (p := ⟨w.heap.size + 1 + 1, 1, none⟩) (by show _ ≤ w.heap.size + 1 + 1; omega) (.slice A1 n1 c1)
        exact bodyPost_ret (v := .tuple #[.agg #[.bool p1, .slice A1 n1 c1], .bool true]) (by simp [results, Tryz.results21, go_sem, P2.c0, P2.c1]) rfl (by rw [pk_low (lo := lo) (sn := sn) (hf := hf) (m := 6) (by omega) (by omega)]; exact ⟨p1, A1, n1, c1, rfl, Z2, HB⟩)
      · by_cases hb : 0 < hf
        · go_wp2
          have P2 := (s0.k.tail.tail.tail.head).self2 ph (.slice Ah nh ch)
          have Z2 := (s0.k.num).set2 (s0.k.tail.tail.tail.head).c0 ph (.slice Ah nh ch)
          have HB := (s0.k.hb.setCell (p := ⟨w.heap.size + 1 + 1, 0, none⟩) (by show _ ≤ w.heap.size + 1 + 1; omega) (.bool ph)).setCell (p := ⟨w.heap.size + 1 + 1, 1, none⟩) (by show _ ≤ w.heap.size + 1 + 1; omega) (.slice Ah nh ch)
          exact bodyPost_ret (v := .tuple #[.agg #[.bool ph, .slice Ah nh ch], .bool true]) (by simp [results, Tryz.results21, go_sem, P2.c0, P2.c1]) rfl (by rw [pk_high (lo := lo) (sn := sn) (hf := hf) (m := 6) (by omega) (by omega)]; exact ⟨ph, Ah, nh, ch, rfl, Z2, HB⟩)
        · go_wp2
          have P2 := (s0.k.tail.tail.tail.head).self2 p1 (.slice A1 n1 c1)
          have Z2 := (s0.k.nt.nt.num).set2 (s0.k.tail.tail.tail.head).c0 p1 (.slice A1 n1 c1)
          have HB := (s0.k.hb.setCell (p := ⟨w.heap.size + 1 + 1, 0, none⟩) (by show _ ≤ w.heap.size + 1 + 1; omega) (.bool p1)).setCell (p := ⟨w.heap.size + 1 + 1, 1, none⟩) (by show _ ≤ w.heap.size + 1 + 1; omega) (.slice A1 n1 c1)
          exact bodyPost_ret (v := .tuple #[.agg #[.bool p1, .slice A1 n1 c1], .bool true]) (by simp [results, Tryz.results21, go_sem, P2.c0, P2.c1]) rfl (by rw [pk_26 (lo := lo) (sn := sn) (hf := hf) (m := 6) (by omega) (by omega)]; exact ⟨p1, A1, n1, c1, rfl, Z2, HB⟩)
    · by_cases ha : hf < 0
      · go_wp2
        have P2 := (s0.k.tail.tail.tail.head).self2 p1 (.slice A1 n1 c1)
        have Z2 := (s0.k.nt.nt.num).set2 (s0.k.tail.tail.tail.head).c0 p1 (.slice A1 n1 c1)
        have HB := (s0.k.hb.setCell (p := ⟨w.heap.size + 1 + 1, 0, none⟩) (by show _ ≤ w.heap.size + 1 + 1; omega) (.bool p1)).setCell (p := ⟨w.heap.size + 1 + 1, 1, none⟩) (by show _ ≤ w.heap.size + 1 + 1; omega) (.slice A1 n1 c1)
        exact bodyPost_ret (v := .tuple #[.agg #[.bool p1, .slice A1 n1 c1], .bool true]) (by simp [results, Tryz.results21, go_sem, P2.c0, P2.c1]) rfl (by rw [pk_low (lo := lo) (sn := sn) (hf := hf) (m := 7) (by omega) (by omega)]; exact ⟨p1, A1, n1, c1, rfl, Z2, HB⟩)
      · by_cases hb : 0 < hf
        · go_wp2
          have P2 := (s0.k.tail.tail.tail.head).self2 ph (.slice Ah nh ch)
          have Z2 := (s0.k.num).set2 (s0.k.tail.tail.tail.head).c0 ph (.slice Ah nh ch)
          have HB := (s0.k.hb.setCell (p := ⟨w.heap.size + 1 + 1, 0, none⟩) (by show _ ≤ w.heap.size + 1 + 1; omega) (.bool ph)).setCell (p := ⟨w.heap.size + 1 + 1, 1, none⟩) (by show _ ≤ w.heap.size + 1 + 1; omega) (.slice Ah nh ch)
          exact bodyPost_ret (v := .tuple #[.agg #[.bool ph, .slice Ah nh ch], .bool true]) (by simp [results, Tryz.results21, go_sem, P2.c0, P2.c1]) rfl (by rw [pk_high (lo := lo) (sn := sn) (hf := hf) (m := 7) (by omega) (by omega)]; exact ⟨ph, Ah, nh, ch, rfl, Z2, HB⟩)
        · go_wp2
          have P2 := (s0.k.tail.tail.tail.head).self2 pf (.slice Af nf cf)
          have Z2 := (s0.zq).set2 (s0.k.tail.tail.tail.head).c0 pf (.slice Af nf cf)
          have HB := (s0.k.hb.setCell (p := ⟨w.heap.size + 1 + 1, 0, none⟩) (by show _ ≤ w.heap.size + 1 + 1; omega) (.bool pf)).setCell (p := ⟨w.heap.size + 1 + 1, 1, none⟩) (by show _ ≤ w.heap.size + 1 + 1; omega) (.slice Af nf cf)
          exact bodyPost_ret (v := .tuple #[.agg #[.bool pf, .slice Af nf cf], .bool true]) (by simp [results, Tryz.results21, go_sem, P2.c0, P2.c1]) rfl (by rw [pk_37p (lo := lo) (sn := sn) (hf := hf) (m := 7) (by omega) (by omega) (by omega)]; exact ⟨pf, Af, nf, cf, rfl, Z2, HB⟩)
    · by_cases ha : hf < 0
      · go_wp2
        have P2 := (s0.k.tail.tail.tail.head).self2 p1 (.slice A1 n1 c1)
        have Z2 := (s0.k.nt.nt.num).set2 (s0.k.tail.tail.tail.head).c0 p1 (.slice A1 n1 c1)
        have HB := (s0.k.hb.setCell (p := ⟨w.heap.size + 1 + 1, 0, none⟩) (by show _ ≤ w.heap.size + 1 + 1; omega) (.bool p1)).setCell (p := ⟨w.heap.size + 1 + 1, 1, none⟩) (by show _ ≤ w.heap.size + 1 + 1; omega) (.slice A1 n1 c1)
        exact bodyPost_ret (v := .tuple #[.agg #[.bool p1, .slice A1 n1 c1], .bool true]) (by simp [results, Tryz.results21, go_sem, P2.c0, P2.c1]) rfl (by rw [pk_low (lo := lo) (sn := sn) (hf := hf) (m := 8) (by omega) (by omega)]; exact ⟨p1, A1, n1, c1, rfl, Z2, HB⟩)
      · by_cases hb : 0 < hf
        · go_wp2
          have P2 := (s0.k.tail.tail.tail.head).self2 ph (.slice Ah nh ch)
          have Z2 := (s0.k.num).set2 (s0.k.tail.tail.tail.head).c0 ph (.slice Ah nh ch)
          have HB := (s0.k.hb.setCell (p := ⟨w.heap.size + 1 + 1, 0, none⟩) (by show _ ≤ w.heap.size + 1 + 1; omega) (.bool ph)).setCell (p := ⟨w.heap.size + 1 + 1, 1, none⟩) (by show _ ≤ w.heap.size + 1 + 1; omega) (.slice Ah nh ch)
          exact bodyPost_ret (v := .tuple #[.agg #[.bool ph, .slice Ah nh ch], .bool true]) (by simp [results, Tryz.results21, go_sem, P2.c0, P2.c1]) rfl (by rw [pk_high (lo := lo) (sn := sn) (hf := hf) (m := 8) (by omega) (by omega)]; exact ⟨ph, Ah, nh, ch, rfl, Z2, HB⟩)
        · go_wp2
          have P2 := (s0.k.tail.tail.tail.head).self2 pr (.slice Ar nr cr)
          have Z2 := (s0.zr).set2 (s0.k.tail.tail.tail.head).c0 pr (.slice Ar nr cr)
          have HB := (s0.k.hb.setCell (p := ⟨w.heap.size + 1 + 1, 0, none⟩) (by show _ ≤ w.heap.size + 1 + 1; omega) (.bool pr)).setCell (p := ⟨w.heap.size + 1 + 1, 1, none⟩) (by show _ ≤ w.heap.size + 1 + 1; omega) (.slice Ar nr cr)
          exact bodyPost_ret (v := .tuple #[.agg #[.bool pr, .slice Ar nr cr], .bool true]) (by simp [results, Tryz.results21, go_sem, P2.c0, P2.c1]) rfl (by rw [pk_48p (lo := lo) (sn := sn) (hf := hf) (m := 8) (by omega) (by omega) (by omega)]; exact ⟨pr, Ar, nr, cr, rfl, Z2, HB⟩)
    · by_cases ha : hf < 0
      · go_wp2
        have P2 := (s0.k.tail.tail.tail.head).self2 p1 (.slice A1 n1 c1)
        have Z2 := (s0.k.nt.nt.num).set2 (s0.k.tail.tail.tail.head).c0 p1 (.slice A1 n1 c1)
        have HB := (s0.k.hb.setCell (p := ⟨w.heap.size + 1 + 1, 0, none⟩) (by show _ ≤ w.heap.size + 1 + 1; omega) (.bool p1)).setCell (p := ⟨w.heap.size + 1 + 1, 1, none⟩) (by show _ ≤ w.heap.size + 1 + 1; omega) (.slice A1 n1 c1)
        exact bodyPost_ret (v := .tuple #[.agg #[.bool p1, .slice A1 n1 c1], .bool true]) (by simp [results, Tryz.results21, go_sem, P2.c0, P2.c1]) rfl (by rw [pk_low (lo := lo) (sn := sn) (hf := hf) (m := 9) (by omega) (by omega)]; exact ⟨p1, A1, n1, c1, rfl, Z2, HB⟩)
      · by_cases hb : 0 < hf
        · go_wp2
          have P2 := (s0.k.tail.tail.tail.head).self2 ph (.slice Ah nh ch)
          have Z2 := (s0.k.num).set2 (s0.k.tail.tail.tail.head).c0 ph (.slice Ah nh ch)
          have HB := (s0.k.hb.setCell (p := ⟨w.heap.size + 1 + 1, 0, none⟩) (by show _ ≤ w.heap.size + 1 + 1; omega) (.bool ph)).setCell (p := ⟨w.heap.size + 1 + 1, 1, none⟩) (by show _ ≤ w.heap.size + 1 + 1; omega) (.slice Ah nh ch)
          exact bodyPost_ret (v := .tuple #[.agg #[.bool ph, .slice Ah nh ch], .bool true]) (by simp [results, Tryz.results21, go_sem, P2.c0, P2.c1]) rfl (by rw [pk_high (lo := lo) (sn := sn) (hf := hf) (m := 9) (by omega) (by omega)]; exact ⟨ph, Ah, nh, ch, rfl, Z2, HB⟩)
        · have FE := first_even lo
          by_cases hn0 : n1 = 0
          · have he : lo % 2 = 0 := by
              have hd := (s0.k.nt.nt.num).ds.len
              rw [← FE, List.getD_eq_getElem?_getD, List.getElem?_eq_none (by omega)]; rfl
            subst hn0
            clear FE
            have HE := Lib.hid he
            clear he
            go_wp2
            have P2 := (s0.k.tail.tail.tail.head).self2 p1 (.slice A1 0 c1)
            have Z2 := (s0.k.nt.nt.num).set2 (s0.k.tail.tail.tail.head).c0 p1 (.slice A1 0 c1)
            have HB := (s0.k.hb.setCell (p := ⟨w.heap.size + 1 + 1, 0, none⟩) (by show _ ≤ w.heap.size + 1 + 1; omega) (.bool p1)).setCell (p := ⟨w.heap.size + 1 + 1, 1, none⟩) (by show _ ≤ w.heap.size + 1 + 1; omega) (.slice A1 0 c1)
            exact bodyPost_ret (v := .tuple #[.agg #[.bool p1, .slice A1 0 c1], .bool true]) (by simp [results, Tryz.results21, go_sem, P2.c0, P2.c1]) rfl (by rw [pk_9e (lo := lo) (sn := sn) (hf := hf) (by omega) (by omega) HE.out]; exact ⟨p1, A1, 0, c1, rfl, Z2, HB⟩)
          · obtain ⟨gd, hA, hgd, hcd⟩ := (s0.k.nt.nt.num).ds.cells (by omega)
            have hd0 := hcd 0 (by omega)
            clear hcd
            subst hA
            have hn1 : ((n1 : Int) == 0) = false := by rw [beq_eq_false_iff_ne]; omega
            have hn2 : (0 : Int) < (n1 : Int) := by omega
            generalize (digs lo.natAbs).getD 0 0 = dg at *
            have tm : ((dg : Nat) : Int).tmod 2 = ((dg : Nat) : Int) % 2 := Int.tmod_eq_emod_of_nonneg (by omega)
            by_cases he : lo % 2 = 0
            · have d0 : ((dg : Nat) : Int).tmod 2 = 0 := by omega
              have HE := Lib.hid he
              clear he FE tm
              go_wp2
              have P2 := (s0.k.tail.tail.tail.head).self2 p1 (.slice (some ⟨gd, 0, none⟩) n1 c1)
              have Z2 := (s0.k.nt.nt.num).set2 (s0.k.tail.tail.tail.head).c0 p1 (.slice (some ⟨gd, 0, none⟩) n1 c1)
              have HB := (s0.k.hb.setCell (p := ⟨w.heap.size + 1 + 1, 0, none⟩) (by show _ ≤ w.heap.size + 1 + 1; omega) (.bool p1)).setCell (p := ⟨w.heap.size + 1 + 1, 1, none⟩) (by show _ ≤ w.heap.size + 1 + 1; omega) (.slice (some ⟨gd, 0, none⟩) n1 c1)
              exact bodyPost_ret (v := .tuple #[.agg #[.bool p1, .slice (some ⟨gd, 0, none⟩) n1 c1], .bool true]) (by simp [results, Tryz.results21, go_sem, P2.c0, P2.c1]) rfl (by rw [pk_9e (lo := lo) (sn := sn) (hf := hf) (by omega) (by omega) HE.out]; exact ⟨p1, (some ⟨gd, 0, none⟩), n1, c1, rfl, Z2, HB⟩)
            · have d0 : ((dg : Nat) : Int).tmod 2 = 1 := by omega
              have HE := Lib.hid he
              clear he FE tm
              go_wp2
              have P2 := (s0.k.tail.tail.tail.head).self2 ph (.slice Ah nh ch)
              have Z2 := (s0.k.num).set2 (s0.k.tail.tail.tail.head).c0 ph (.slice Ah nh ch)
              have HB := (s0.k.hb.setCell (p := ⟨w.heap.size + 1 + 1, 0, none⟩) (by show _ ≤ w.heap.size + 1 + 1; omega) (.bool ph)).setCell (p := ⟨w.heap.size + 1 + 1, 1, none⟩) (by show _ ≤ w.heap.size + 1 + 1; omega) (.slice Ah nh ch)
              exact bodyPost_ret (v := .tuple #[.agg #[.bool ph, .slice Ah nh ch], .bool true]) (by simp [results, Tryz.results21, go_sem, P2.c0, P2.c1]) rfl (by rw [pk_9o (lo := lo) (sn := sn) (hf := hf) (by omega) (by omega) HE.out]; exact ⟨ph, Ah, nh, ch, rfl, Z2, HB⟩)

end Go.Proofs.YtlidicnbmfkghaaGreatDoor

/- The document's answer of layer 4: numbers and fractions rounded, out of what their calls answer. -/
namespace Go.Proofs.YtlidicnbmfkghaaGreatDoor
open Go.RowKit

end Go.Proofs.YtlidicnbmfkghaaGreatDoor

/- The document's answer of layer 4 at a mode that is none. -/
namespace Go.Proofs.YtlidicnbmfkghaaGreatDoor
open Go.RowKit

set_option maxRecDepth 100000 in
theorem near_less (p q : Bool) (A B : Option Addr) (n m c d : Nat) (mo : Int) (h : mo < 1) (w : World) :
    Calls Tryz.prog 21 #[.agg #[.bool p, .slice A n c], .agg #[.bool q, .slice B m d], .int .i64 mo] w (fun e w' => e = .returned (.tuple #[.agg #[.bool false, .slice none 0 0], .bool false]) ∧ Below w.heap.size w w') := by
  have KM := (((BM.nil w).more2 (.bool p) (.slice A n c) 61).more2 (.bool q) (.slice B m d) 61).more2 (.bool false) (.slice none 0 0) 61
  simp only [World.size_alloc] at KM
  go_enter Tryz.func21, Tryz.ntmps21
  go_upto_region 1 with (fail)
  generalize ((w.alloc (.cells #[.bool p, .slice A n c] 61)).alloc (.cells #[.bool q, .slice B m d] 61)).alloc (.cells #[.bool false, .slice none 0 0] 61) = w0 at *
  obtain ⟨_, ra, rb, rc, rd⟩ := (KM.head).two
  go_wp2
  obtain ⟨_, P0, P1, _, _⟩ := ((KM.head).self2 (.bool false) (.slice none 0 0)).two
  have HB := (KM.hb.setCell (p := ⟨w.heap.size + 1 + 1, 0, none⟩) (by show _ ≤ w.heap.size + 1 + 1; omega) (.bool false)).setCell (p := ⟨w.heap.size + 1 + 1, 1, none⟩) (by show _ ≤ w.heap.size + 1 + 1; omega) (.slice none 0 0)
  exact bodyPost_ret (v := .tuple #[.agg #[.bool false, .slice none 0 0], .bool false]) (by simp [results, Tryz.results21, go_sem, P0, P1]) rfl ⟨rfl, HB⟩
set_option maxRecDepth 100000 in
theorem near_more (p q : Bool) (A B : Option Addr) (n m c d : Nat) (mo : Int) (h : ¬ mo < 1) (h9 : 9 < mo) (w : World) :
    Calls Tryz.prog 21 #[.agg #[.bool p, .slice A n c], .agg #[.bool q, .slice B m d], .int .i64 mo] w (fun e w' => e = .returned (.tuple #[.agg #[.bool false, .slice none 0 0], .bool false]) ∧ Below w.heap.size w w') := by
  have KM := (((BM.nil w).more2 (.bool p) (.slice A n c) 61).more2 (.bool q) (.slice B m d) 61).more2 (.bool false) (.slice none 0 0) 61
  simp only [World.size_alloc] at KM
  go_enter Tryz.func21, Tryz.ntmps21
  go_upto_region 1 with (fail)
  generalize ((w.alloc (.cells #[.bool p, .slice A n c] 61)).alloc (.cells #[.bool q, .slice B m d] 61)).alloc (.cells #[.bool false, .slice none 0 0] 61) = w0 at *
  obtain ⟨_, ra, rb, rc, rd⟩ := (KM.head).two
  go_wp2
  obtain ⟨_, P0, P1, _, _⟩ := ((KM.head).self2 (.bool false) (.slice none 0 0)).two
  have HB := (KM.hb.setCell (p := ⟨w.heap.size + 1 + 1, 0, none⟩) (by show _ ≤ w.heap.size + 1 + 1; omega) (.bool false)).setCell (p := ⟨w.heap.size + 1 + 1, 1, none⟩) (by show _ ≤ w.heap.size + 1 + 1; omega) (.slice none 0 0)
  exact bodyPost_ret (v := .tuple #[.agg #[.bool false, .slice none 0 0], .bool false]) (by simp [results, Tryz.results21, go_sem, P0, P1]) rfl ⟨rfl, HB⟩
theorem near_none (p q : Bool) (A B : Option Addr) (n m c d : Nat) (mo : Int) (h : mo < 1 ∨ 9 < mo) (w : World) :
    Calls Tryz.prog 21 #[.agg #[.bool p, .slice A n c], .agg #[.bool q, .slice B m d], .int .i64 mo] w (fun e w' => e = .returned (.tuple #[.agg #[.bool false, .slice none 0 0], .bool false]) ∧ Below w.heap.size w w') := by
  by_cases h1 : mo < 1
  · exact near_less p q A B n m c d mo h1 w
  · exact near_more p q A B n m c d mo h1 (by omega) w
end Go.Proofs.YtlidicnbmfkghaaGreatDoor

/- The document's answer of layer 4, at any numbers: Near, To and Ratio. -/
namespace Go.Proofs.YtlidicnbmfkghaaGreatDoor
open Go.RowKit

theorem cmpZ_neg (x y : Int) : cmpZ x y < 0 ↔ x < y := by
  rcases Int.lt_trichotomy x y with h | h | h
  · rw [cmpZ_lt h]; omega
  · rw [cmpZ_eq h]; omega
  · rw [cmpZ_gt h]; omega
theorem cmpZ_pos (x y : Int) : 0 < cmpZ x y ↔ y < x := by
  rcases Int.lt_trichotomy x y with h | h | h
  · rw [cmpZ_lt h]; omega
  · rw [cmpZ_eq h]; omega
  · rw [cmpZ_gt h]; omega
theorem pick_near {x y m : Int} (h0 : x % y ≠ 0) : pickN (x / y) (cmpZ x 0) (cmpZ (x % y + x % y) y) m = nearZ x y m := by
  have c1 : cmpZ (x % y + x % y) y < 0 ↔ 2 * (x % y) < y := by rw [cmpZ_neg]; omega
  have c2 : 0 < cmpZ (x % y + x % y) y ↔ y < 2 * (x % y) := by rw [cmpZ_pos]; omega
  have c3 : cmpZ x 0 < 0 ↔ x < 0 := cmpZ_neg x 0
  unfold nearZ
  rw [if_neg h0]
  unfold pickN upR
  simp only [c1, c2, c3]
  by_cases a1 : 5 ≤ m ∧ 2 * (x % y) < y
  · rw [if_pos a1, if_pos a1]; simp
  · rw [if_neg a1, if_neg a1]
    by_cases a2 : 5 ≤ m ∧ y < 2 * (x % y)
    · rw [if_pos a2, if_pos a2]; simp
    · rw [if_neg a2, if_neg a2]
      by_cases a3 : m = 1 ∨ m = 5
      · rw [if_pos a3, if_pos a3]; simp
      · rw [if_neg a3, if_neg a3]
        by_cases a4 : m = 2 ∨ m = 6
        · rw [if_pos a4, if_pos a4]; simp
        · rw [if_neg a4, if_neg a4]
          by_cases a5 : m = 3 ∨ m = 7
          · rw [if_pos a5, if_pos a5]
            by_cases a6 : x < 0
            · rw [if_pos a6, decide_eq_false (by omega)]; simp
            · rw [if_neg a6, decide_eq_true (by omega)]; simp
          · rw [if_neg a5, if_neg a5]
            by_cases a7 : m = 4 ∨ m = 8
            · rw [if_pos a7, if_pos a7]
              by_cases a6 : x < 0
              · rw [if_pos a6, decide_eq_true a6]; simp
              · rw [if_neg a6, decide_eq_false a6]; simp
            · rw [if_neg a7, if_neg a7]
              by_cases a8 : x / y % 2 = 0
              · rw [if_pos a8, decide_eq_false (by omega)]; simp
              · rw [if_neg a8, decide_eq_true a8]; simp
theorem near_any (p q : Bool) (A B : Option Addr) (n m c d : Nat) (x y mo : Int) (hy0 : 0 < y) (m1 : 1 ≤ mo) (m9 : mo ≤ 9) (sx : x.natAbs < 65536 ^ 9) (sy : y.natAbs < 65536 ^ 9) (w : World) (hx : Zs w p A n c x) (hy : Zs w q B m d y) :
    Calls Tryz.prog 21 #[.agg #[.bool p, .slice A n c], .agg #[.bool q, .slice B m d], .int .i64 mo] w (RetNB w (nearZ x y mo)) := by
  have ln := hx.small sx
  have lm := hy.small sy
  obtain ⟨e1, e2⟩ := floor_parts (n := x) hy0
  have DV : Hid (∀ W, Zs W p A n c x → Zs W q B m d y → Calls Tryz.prog 44 #[.agg #[.bool p, .slice A n c], .agg #[.bool q, .slice B m d]] W (RetQR W (x / y) (x % y))) :=
    Lib.hid fun W h1 h2 => by have := div_any p q A B n m c d x y W h1 h2 (by omega) (by omega) (by omega); rwa [e1, e2] at this
  have sl : Hid ((x / y).natAbs < 65536 ^ 9) := Lib.hid (by rw [← e1]; exact quot_small sx (by omega))
  have sr : Hid ((x % y).natAbs < 65536 ^ 9) := Lib.hid (by rw [← e2]; exact rest_small sy (by omega))
  by_cases h0 : x % y = 0
  · have : nearZ x y mo = x / y := by unfold nearZ; rw [if_pos h0]
    rw [this]
    exact near_zero p q A B n m c d x y _ _ mo m1 m9 DV sl sr (Lib.hid fun p A n c W h1 h2 => by have := sign_any p A n c _ W h1 h2; rwa [cmpZ_eq h0] at this) w hx hy
  · rw [← pick_near h0]
    have r0 := Int.emod_nonneg x (b := y) (by omega)
    refine near_rest p q A B n m c d x y _ _ mo m1 m9 DV sl sr (cmpZ (x % y) 0) _ _ ?_ (Lib.hid fun p A n c W h1 h2 => sign_any p A n c _ W h1 h2) (Lib.hid fun W h1 => sign_any p A n c x W h1 (by omega)) (Lib.hid fun p A n c W h1 h2 h3 => cmp_any p q A B n m c d _ y W h1 h2 h3 (by omega)) w hx hy
    rw [cmpZ_gt (by omega)]; decide
theorem near_le {x y m : Int} (hy : 0 < y) : (nearZ x y m).natAbs ≤ x.natAbs + 1 := by
  have e := (floor_parts (n := x) hy).1
  have h := (fdiv_le x y (by omega)).1
  rw [e] at h
  rcases near_two (n := x) (d := y) (m := m) with k | ⟨k, _⟩ <;> omega
end Go.Proofs.YtlidicnbmfkghaaGreatDoor
