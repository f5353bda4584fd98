/- The document's answer of layer 2: the sum of a row of wide numbers. -/
import Derived.Test.YtpjhenipeafbiaaWlaw
import Derived.Deep.RegionWith
namespace Go.Proofs.Ytpjhenipeafbiaa
open Go.RowKit

/-- What holds at the head of a round of the document's Sum. -/
def RsRel (w : World) (n : Nat) (l : List Int) (i : Value) (W : World) : Prop :=
  ∃ (k : Nat) (p : Bool) (A : Option Addr) (m c : Nat), i = .int .i64 k ∧ k ≤ n ∧ Box W w.heap.size false (.slice none 0 0) ∧ Box W (w.heap.size + 1) p (.slice A m c) ∧ Zs W p A m c (l.take k).sum ∧ Below w.heap.size w W

theorem sum_abs (l : List Int) (h : ∀ z ∈ l, InW z) : l.sum.natAbs ≤ l.length * 170141183460469231731687303715884105728 := by
  induction l with
  | nil => simp
  | cons z l ih =>
    have h1 := ih (fun x hx => h x (List.mem_cons_of_mem _ hx))
    have h2 := abs_w (h z (List.mem_cons_self ..))
    rw [List.sum_cons, List.length_cons]
    omega
theorem sum_small (l : List Int) (h : ∀ z ∈ l, InW z) (k : Nat) (hl : l.length ≤ 1000) : ((l.take k).sum).natAbs < 65536 ^ 10 := by
  have h1 := sum_abs (l.take k) (fun z hz => h z (List.mem_of_mem_take hz))
  have h2 : (l.take k).length ≤ 1000 := Nat.le_trans (List.length_take_le' ..) hl
  have e : (65536 : Nat) ^ 10 = 1461501637330902918203684832716283019655932542976 := by decide
  rw [e]
  omega

set_option maxRecDepth 100000 in
set_option maxHeartbeats 4000000 in
theorem rsum_any (A : Option Addr) (n c : Nat) (l : List Int) (w : World) (h : Ws w A n c l) (hn : n ≤ 1000) :
    Calls Try.prog 32 #[.slice A n c] w (RetZ w l.sum) := by
  have HL := Lib.hid h
  have HS := Lib.hid (fun k => sum_small l h.wide k (by rw [h.len]; exact hn))
  have HW := Lib.hid (fun i (hi : i < n) => h.wide _ (getD_mem (l := l) (i := i) (by rw [h.len]; exact hi)))
  have HT := Lib.hid (fun i (hi : i < n) => take_sum (l := l) (i := i) (by rw [h.len]; exact hi))
  clear h
  go_enter Try.func32, Try.ntmps32
  go_wp2_with fail
  have b1 := (Box.new w false (.slice none 0 0) 31).below' (below_box _ (.cells #[.bool false, .slice none 0 0] 31))
  have b2 := Box.new (w.alloc (.cells #[.bool false, .slice none 0 0] 31)) false (.slice none 0 0) 31
  rw [World.size_alloc] at b2
  have HB := below_thru (below_box w (.cells #[.bool false, .slice none 0 0] 31)) (below_box _ (.cells #[.bool false, .slice none 0 0] 31))
  generalize (w.alloc (.cells #[.bool false, .slice none 0 0] 31)).alloc (.cells #[.bool false, .slice none 0 0] 31) = w0 at *
  go_loopw [4] (fun i wr => RsRel w n l i wr) (fun i _ => n - (intOf i).toNat)
  case atStart => exact ⟨0, false, none, 0, 0, rfl, Nat.zero_le _, b1, b2, Zs.zero _, HB⟩
  case round =>
    obtain ⟨k, p, B, m, d, rfl, hk, G, X, hz, hbel⟩ := hrel
    clear b1 b2 HB
    have lm := hz.small (HS.out k)
    by_cases h1 : k < n
    · have hT := HT.out k h1
      have hw := HW.out k h1
      have hs := HS.out (k + 1)
      obtain ⟨a, rfl, hg, hc⟩ := (HL.out.below hbel).cells (by omega)
      obtain ⟨c0, c1⟩ := hc k h1
      have c2 := c1
      rw [add_split] at c2
      clear hc
      rw [hT] at hs
      have HHT := Lib.hid hT
      have HHS := Lib.hid hs
      clear hT hs
      generalize (l.take k).sum = s at *
      generalize l.getD k 0 = z at *
      have OZ := Lib.hid (fun W => wof_z z hw W)
      have sz := Lib.hid (small_w hw)
      clear hw
      obtain ⟨_, a0, a1, f0, f1⟩ := id X
      go_wp2_with fail
      have s9 := X.drew
      have g9 := G.drew
      have hb9 := hbel.drew
      have z9 := hz.drew
      go_region_with (first
        | (go_at_call 13; (with_reducible refine (OZ.out _).mono ?_); rintro e W1 ⟨p1, A1, n1, c1, rfl, z1, k1⟩
           have l1 := z1.small sz.out
           have s10 := s9.below' k1
           have g10 := g9.below' k1
           have hb10 := below_thru hb9 k1
           have z10 := z9.below k1
           clear k1
           obtain ⟨_, q4, q5, q6, q7⟩ := id s10)
        | (go_at_call 21; (with_reducible refine (add_any p p1 B A1 m n1 d c1 _ _ _ z10 z1 (by omega) (by omega)).mono ?_); rintro e W2 ⟨p2, A2, n2, c2, rfl, z2, k2⟩
           have s11 := s10.below' k2
           have g11 := g10.below' k2
           have hb11 := below_thru hb10 k2
           clear k2
           obtain ⟨_, q8, q9, qa, qb⟩ := id s11))
      all_goals
        go_wp2
        go_roundw
        case rel => exact ⟨k + 1, p2, A2, n2, _, int_eq (by omega), by omega, g11.far2 (by omega) _ _, s11.self2 _ _, by rw [HHT.out]; exact z2.set2 s11.c0 _ _, (hb11.setCell (p := ⟨w.heap.size + 1, 0, none⟩) (by show _ ≤ w.heap.size + 1; omega) _).setCell (p := ⟨w.heap.size + 1, 1, none⟩) (by show _ ≤ w.heap.size + 1; omega) _⟩
        case measure => simp only [intOf]; omega
    · have e : l.take k = l := List.take_of_length_le (by rw [HL.out.len]; omega)
      rw [e] at hz
      obtain ⟨_, a0, a1, f0, f1⟩ := id X
      obtain ⟨_, g0, g1, e0, e1⟩ := id G
      clear e
      go_wp2
      exact bodyPost_ret (v := .agg #[.bool p, .slice B m d]) (by simp [results, Try.results32, go_sem, g0, g1]) rfl (G.ret hz hbel (Nat.le_refl _))
end Go.Proofs.Ytpjhenipeafbiaa
