import Derived.Test.YtallclimljiplaaGreatDoorZUdig
import Derived.Lib.SlicesS
import Derived.BigQuiet
import Derived.Deep.RegionHeld3
set_option maxRecDepth 100000
set_option maxHeartbeats 64000000
namespace Go.Proofs.YtallclimljiplaaGreatDoor
open Go.RowKit
def occ (s t : ByteArray) (i : Nat) : Prop := i + t.size ≤ s.size ∧ s.extract i (i + t.size) = t
theorem occ_least {s t : ByteArray} (h : ∃ i, occ s t i) : ∃ i, occ s t i ∧ ∀ k, k < i → ¬ occ s t k := by
  obtain ⟨i, hi⟩ := h
  induction i using Nat.strongRecOn with
  | ind i ih =>
    by_cases c : ∃ k, k < i ∧ occ s t k
    · obtain ⟨k, hk, ok⟩ := c
      exact ih k hk ok
    · exact ⟨i, hi, fun k hk ok => c ⟨k, hk, ok⟩⟩
open Classical in
noncomputable def sgnT (s t : ByteArray) : Option Nat := if h : ∃ i, occ s t i then some (Classical.choose (occ_least h)) else none
theorem sgnT_spec {s t : ByteArray} {i : Nat} (h : sgnT s t = some i) : occ s t i ∧ ∀ k, k < i → ¬ occ s t k := by
  unfold sgnT at h
  split at h
  · rename_i c
    cases h
    exact Classical.choose_spec (occ_least c)
  · cases h
theorem sgnT_none {s t : ByteArray} (h : ∀ k, ¬ occ s t k) : sgnT s t = none := by
  unfold sgnT
  rw [dif_neg (fun ⟨k, hk⟩ => h k hk)]
theorem sgnT_no {s t : ByteArray} (h : sgnT s t = none) (k : Nat) : ¬ occ s t k := fun hk => by
  unfold sgnT at h
  rw [dif_pos ⟨k, hk⟩] at h
  cases h
theorem sgnT_at {s t : ByteArray} {i : Nat} (h : occ s t i) (m : ∀ k, k < i → ¬ occ s t k) : sgnT s t = some i := by
  cases e : sgnT s t with
  | none => exact absurd h (sgnT_no e i)
  | some j =>
    obtain ⟨h1, h2⟩ := sgnT_spec e
    by_cases c : j < i
    · exact absurd h1 (m j c)
    · by_cases c2 : i < j
      · exact absurd h (h2 i c2)
      · rw [show j = i by omega]
def toldB (n : Int) : ByteArray :=
  (if n < 0 then ⟨#[45]⟩ else ⟨#[43]⟩) ++ twB (n.natAbs / 3600) ++ (if n.natAbs % 3600 ≠ 0 then twB (n.natAbs % 3600 / 60) else ⟨#[]⟩) ++ (if n.natAbs % 60 ≠ 0 then twB (n.natAbs % 60) else ⟨#[]⟩)
noncomputable def abbrB (f l : ByteArray) (off save : Int) : ByteArray :=
  match sgnT f ⟨#[37, 115]⟩ with
  | some i => f.extract 0 i ++ l ++ f.extract (i + 2) f.size
  | none => match sgnT f ⟨#[37, 122]⟩ with
    | some i => f.extract 0 i ++ toldB off ++ f.extract (i + 2) f.size
    | none => match sgnT f ⟨#[47]⟩ with
      | none => f
      | some i => if save = 0 then f.extract 0 i else f.extract (i + 1) f.size
theorem toList_beqT (s t : ByteArray) : (s.toList == t.toList) = decide (s = t) := by
  by_cases h : s = t
  · subst h; simp
  · rw [decide_eq_false h]; exact (Lib.bytes_beq_false_iff s t).2 h
theorem occ_eq {s t : ByteArray} {i : Nat} (h : i + t.size ≤ s.size) : ((s.extract i (i + t.size)).toList == t.toList) = true ↔ occ s t i := by
  unfold occ
  rw [toList_beqT, decide_eq_true_eq]
  exact ⟨fun e => ⟨h, e⟩, fun e => e.2⟩
noncomputable def signV (s t : ByteArray) : Int := match sgnT s t with | none => -1 | some i => (i : Int)
theorem signE (s t : ByteArray) (hs : s.size ≤ 1000000) (ht : t.size ≤ 10) (w : World) : Calls Tryz.prog 24 #[.string s, .string t] w (fun e w' => e = .returned (.int .i64 (signV s t)) ∧ w' = w) := by
  have FIN := Lib.hid (fun (i : Nat) (o : occ s t i) m => (show signV s t = i by unfold signV; rw [sgnT_at o m]))
  have FNO := Lib.hid (fun (m : ∀ k, ¬ occ s t k) => (show signV s t = -1 by unfold signV; rw [sgnT_none m]))
  have OC := Lib.hid (fun (i : Nat) h => occ_eq (s := s) (t := t) (i := i) h)
  generalize signV s t = r at *
  go_enter Tryz.func24, Tryz.ntmps24
  go_wp2
  go_loopw [5] (fun v3 wr => ∃ i : Nat, v3 = .int .i64 i ∧ i ≤ s.size + 1 ∧ wr = w ∧ Hid (∀ k, k < i → ¬ occ s t k)) (fun v3 _ => s.size + 1 - (intOf v3).toNat)
  case atStart => exact ⟨0, rfl, Nat.zero_le _, rfl, Lib.hid fun k h => absurd h (Nat.not_lt_zero _)⟩
  case round =>
    obtain ⟨i, rfl, hi, rfl, M⟩ := hrel
    by_cases hl : i + t.size ≤ s.size
    · by_cases o : occ s t i
      · have q := (OC.out i hl).2 o
        replace FIN := FIN.out i o M.out
        clear OC FNO M
        go_wp2
        go_ret
        exact ⟨by rw [FIN]; rfl, rfl⟩
      · have q : ((s.extract i (i + t.size)).toList == t.toList) = false := by
          rw [Bool.eq_false_iff]
          exact fun h => o ((OC.out i hl).1 h)
        replace M : Hid (∀ k, k < i + 1 → ¬ occ s t k) := Lib.hid fun k hk => by
          by_cases e : k = i
          · rw [e]; exact o
          · exact M.out k (by omega)
        clear OC FNO FIN
        go_wp2
        go_roundw
        case measure => simp only [intOf]; omega
        case rel => exact ⟨i + 1, by go_num, by omega, by first | exact rfl | trivial, M⟩
    · replace FNO := FNO.out (fun k o => by
        by_cases c : k < i
        · exact M.out k c o
        · exact absurd o.1 (by omega))
      clear OC FIN M
      go_wp2
      go_ret
      exact ⟨by rw [FNO]; rfl, rfl⟩
theorem signV_some {s t : ByteArray} {i : Nat} (h : sgnT s t = some i) : signV s t = i := by unfold signV; rw [h]
theorem signV_none {s t : ByteArray} (h : sgnT s t = none) : signV s t = -1 := by unfold signV; rw [h]
theorem abbrE (f l : ByteArray) (hf : f.size ≤ 1000) (hl : l.size ≤ 1000) (off save : Int) (TD : ∀ W, Calls Tryz.prog 25 #[.int .i64 off] W (RetV W (.string (toldB off)))) (hz : (toldB off).size ≤ 100) (w : World) :
    Calls Tryz.prog 11 #[.string f, .string l, .int .i64 off, .int .i64 save] w (RetV w (.string (abbrB f l off save))) := by
  have S1 := Lib.hid (fun W => signE f ⟨#[37, 115]⟩ (by omega) (by decide) W)
  have S2 := Lib.hid (fun W => signE f ⟨#[37, 122]⟩ (by omega) (by decide) W)
  have S3 := Lib.hid (fun W => signE f ⟨#[47]⟩ (by omega) (by decide) W)
  have TD := Lib.hid TD
  unfold abbrB
  cases e1 : sgnT f ⟨#[37, 115]⟩ with
  | some i =>
    have o : i + 2 ≤ f.size := (sgnT_spec e1).1.1
    replace S1 := S1.out
    rw [signV_some e1] at S1
    replace S1 := Lib.hid S1
    have d1 : (0 : Int) ≤ (i : Int) := by omega
    have d2 : (i : Int) ≤ (f.size : Int) := by omega
    have d3 : (i : Int) + 2 ≤ (f.size : Int) := by omega
    have z1 : (f.extract 0 i).size = i := by rw [ByteArray.size_extract]; omega
    have z2 : (f.extract (i + 2) f.size).size = f.size - (i + 2) := by rw [ByteArray.size_extract]; omega
    clear S2 S3 TD hz e1
    show Calls Tryz.prog _ _ _ (RetV w (.string (f.extract 0 i ++ l ++ f.extract (i + 2) f.size)))
    go_enter Tryz.func11, Tryz.ntmps11
    go_wp2_with (go_at_call 24; refine (S1.out _).mono ?_; clear S1; rintro e w' ⟨rfl, rfl⟩)
    go_region
    go_wp2
    go_ret
    exact ⟨rfl, (Below.refl _ _).drew⟩
  | none =>
    replace S1 := S1.out
    rw [signV_none e1] at S1
    replace S1 := Lib.hid S1
    clear e1
    cases e2 : sgnT f ⟨#[37, 122]⟩ with
    | some i =>
      have o : i + 2 ≤ f.size := (sgnT_spec e2).1.1
      replace S2 := S2.out
      rw [signV_some e2] at S2
      replace S2 := Lib.hid S2
      have d1 : (0 : Int) ≤ (i : Int) := by omega
      have d2 : (i : Int) ≤ (f.size : Int) := by omega
      have d3 : (i : Int) + 2 ≤ (f.size : Int) := by omega
      have z1 : (f.extract 0 i).size = i := by rw [ByteArray.size_extract]; omega
      have z2 : (f.extract (i + 2) f.size).size = f.size - (i + 2) := by rw [ByteArray.size_extract]; omega
      have r2 : IntKind.i64.wrap ((i : Int) + 2) = (i : Int) + 2 := by rw [IntKind.wrap_i64]; omega
      have t2 : ((i : Int) + 2).toNat = i + 2 := by omega
      have p2 : (0 : Int) ≤ (i : Int) + 2 := by omega
      clear S3 e2
      show Calls Tryz.prog _ _ _ (RetV w (.string (f.extract 0 i ++ toldB off ++ f.extract (i + 2) f.size)))
      generalize toldB off = t at *
      have z3 : (f.extract 0 i ++ t).size = i + t.size := by rw [ByteArray.size_append, z1]
      have c0 := fun W => run_string_add_sum (P := Tryz.prog) W (f.extract 0 i) t (by omega)
      have c1 := fun W => run_string_add_sum (P := Tryz.prog) W (f.extract 0 i ++ t) (f.extract (i + 2) f.size) (by omega)
      go_enter Tryz.func11, Tryz.ntmps11
      go_wp2_with (first | (go_at_call 24; refine (S1.out _).mono ?_; clear S1; rintro e w' ⟨rfl, rfl⟩) | (go_at_call 24; refine (S2.out _).mono ?_; clear S2; rintro e w' ⟨rfl, rfl⟩))
      go_region_held3 (fun W' => Below w'.heap.size w' W') (first | exact Below.refl _ _ | exact (Below.refl _ _).drew | exact hq) ((go_at_call 25; refine (TD.out _).mono ?_; rintro e w9 ⟨rfl, hq⟩; replace hq := below_thru ((Below.refl w'.heap.size w').drew) hq))
      go_wp2
      go_ret
      exact ⟨rfl, by assumption⟩
    | none =>
      replace S2 := S2.out
      rw [signV_none e2] at S2
      replace S2 := Lib.hid S2
      clear e2 TD hz
      cases e3 : sgnT f ⟨#[47]⟩ with
      | none =>
        replace S3 := S3.out
        rw [signV_none e3] at S3
        replace S3 := Lib.hid S3
        clear e3
        show Calls Tryz.prog _ _ _ (RetV w (.string f))
        go_enter Tryz.func11, Tryz.ntmps11
        go_wp2_with (first | (go_at_call 24; refine (S1.out _).mono ?_; clear S1; rintro e w' ⟨rfl, rfl⟩) | (go_at_call 24; refine (S2.out _).mono ?_; clear S2; rintro e w' ⟨rfl, rfl⟩) | (go_at_call 24; refine (S3.out _).mono ?_; clear S3; rintro e w' ⟨rfl, rfl⟩))
        go_ret
        exact ⟨rfl, Below.refl _ _⟩
      | some i =>
        have o : i + 1 ≤ f.size := (sgnT_spec e3).1.1
        replace S3 := S3.out
        rw [signV_some e3] at S3
        replace S3 := Lib.hid S3
        have d1 : (0 : Int) ≤ (i : Int) := by omega
        have d2 : (i : Int) ≤ (f.size : Int) := by omega
        have d3 : (i : Int) + 1 ≤ (f.size : Int) := by omega
        have d4 : ¬ (i : Int) < 0 := by omega
        clear e3
        by_cases hs : save = 0
        · show Calls Tryz.prog _ _ _ (RetV w (.string (if save = 0 then f.extract 0 i else f.extract (i + 1) f.size)))
          rw [if_pos hs]
          go_enter Tryz.func11, Tryz.ntmps11
          go_wp2_with (first | (go_at_call 24; refine (S1.out _).mono ?_; clear S1; rintro e w' ⟨rfl, rfl⟩) | (go_at_call 24; refine (S2.out _).mono ?_; clear S2; rintro e w' ⟨rfl, rfl⟩) | (go_at_call 24; refine (S3.out _).mono ?_; clear S3; rintro e w' ⟨rfl, rfl⟩))
          go_ret
          exact ⟨rfl, Below.refl _ _⟩
        · show Calls Tryz.prog _ _ _ (RetV w (.string (if save = 0 then f.extract 0 i else f.extract (i + 1) f.size)))
          rw [if_neg hs]
          go_enter Tryz.func11, Tryz.ntmps11
          go_wp2_with (first | (go_at_call 24; refine (S1.out _).mono ?_; clear S1; rintro e w' ⟨rfl, rfl⟩) | (go_at_call 24; refine (S2.out _).mono ?_; clear S2; rintro e w' ⟨rfl, rfl⟩) | (go_at_call 24; refine (S3.out _).mono ?_; clear S3; rintro e w' ⟨rfl, rfl⟩))
          go_ret
          exact ⟨rfl, Below.refl _ _⟩
theorem dOf_all {N : Nat} (h : 10 ≤ N) : dOf N ⟨[].toArray⟩ = decB N := by
  unfold dOf
  rw [if_neg (by intro k; omega)]
  unfold decB
  rw [txt_app, List.append_nil]
theorem twice12P (N : Nat) (hN : (N : Int) ≤ 9000000000000000000) (w : World) : Calls Tryz.prog 40 #[.int .i64 N] w (RetV w (.string (twB N))) := by
  by_cases h : N < 10
  · have RS : twB N = ⟨#[48]⟩ ++ ⟨[UInt8.ofNat (48 + N)].toArray⟩ := by
      unfold twB decB
      rw [if_pos h, dec_small h]
    have cv := fun W => byte_text W (48 + (N : Int)) (UInt8.ofNat (48 + N)) (by rw [UInt8.toNat_ofNat']; omega)
    have d1 : decide ((-10 : Int) < (N : Int)) = true := decide_eq_true (by omega)
    have d2 : decide ((N : Int) < 10) = true := decide_eq_true (by omega)
    have d3 : decide ((N : Int) < 0) = false := decide_eq_false (by omega)
    rw [RS]
    generalize UInt8.ofNat (48 + N) = b at *
    go_enter Tryz.func40, Tryz.ntmps40
    go_wp2
    go_ret
    exact ⟨rfl, below_box w _⟩
  · have RS : twB N = decB N := by unfold twB; rw [if_neg h]
    have D0 := Lib.hid (dOf_all (N := N) (by omega))
    rw [RS]
    have d1 : decide ((-10 : Int) < (N : Int)) = true := decide_eq_true (by omega)
    have d2 : decide ((N : Int) < 10) = false := decide_eq_false (by omega)
    go_enter Tryz.func40, Tryz.ntmps40
    go_wp2
    go_loopw [0, 3] (fun n s wr => ∃ (k j : Nat) (t : ByteArray), n = .int .i64 k ∧ s = .string t ∧ k < 10 ^ j ∧ k ≤ N ∧ t.size + j = 19 ∧ Hid (dOf k t = decB N) ∧ (0 < k ∨ 0 < t.size) ∧ Below w.heap.size w wr) (fun n _ _ => (intOf n).toNat)
    case atStart => exact ⟨N, 19, ⟨[].toArray⟩, rfl, rfl, by omega, Nat.le_refl _, rfl, D0, Or.inl (by omega), Below.refl _ _⟩
    case round =>
      obtain ⟨k, j, t, rfl, rfl, hk, hkN, hj, he, h0, hbel⟩ := hrel
      have hsz := hbel.size
      by_cases h1 : 0 < k
      · obtain ⟨b, hb⟩ : ∃ b : UInt8, b = UInt8.ofNat (48 + k % 10) := ⟨_, rfl⟩
        have hj1 : 1 ≤ j := by
          rcases Nat.eq_zero_or_pos j with rfl | h
          · simp at hk; omega
          · exact h
        obtain ⟨j, rfl⟩ : ∃ i, j = i + 1 := ⟨j - 1, by omega⟩
        have hk2 : k / 10 < 10 ^ j := by rw [Nat.pow_succ] at hk; omega
        have HE := Lib.hid ((dOf_step k t (Or.inl h1) b hb).trans he.out)
        have cv := fun W => byte_text W (48 + (k : Int) % 10) b (by rw [hb, UInt8.toNat_ofNat']; omega)
        clear he hb
        go_wp2
        go_roundw
        case rel => exact ⟨k / 10, j, ⟨[b].toArray⟩ ++ t, int_eqS (by omega), rfl, hk2, by omega, by rw [ByteArray.size_append]; show 1 + t.size + j = 19; omega, HE, Or.inr (by rw [ByteArray.size_append]; show 0 < 1 + t.size; omega), hbel.alloc hsz _⟩
        case measure => simp only [intOf]; omega
      · have k0 : k = 0 := by omega
        subst k0
        have HE := Lib.hid (show decB N = t by rw [← he.out]; unfold dOf; rw [if_pos ⟨rfl, h0.resolve_left h1⟩])
        clear he
        go_wp2
        go_ret
        exact ⟨by rw [HE.out]; rfl, hbel⟩
theorem twice12N (N : Nat) (h0 : 0 < N) (hN : (N : Int) ≤ 9000000000000000000) (w : World) : Calls Tryz.prog 40 #[.int .i64 (-(N : Int))] w (RetV w (.string (twB N))) := by
  by_cases h : N < 10
  · have RS : twB N = ⟨#[48]⟩ ++ ⟨[UInt8.ofNat (48 + N)].toArray⟩ := by
      unfold twB decB
      rw [if_pos h, dec_small h]
    have cv := fun W => byte_text W (48 + (N : Int)) (UInt8.ofNat (48 + N)) (by rw [UInt8.toNat_ofNat']; omega)
    have d1 : decide ((-10 : Int) < -(N : Int)) = true := decide_eq_true (by omega)
    have d2 : decide (-(N : Int) < 10) = true := decide_eq_true (by omega)
    have d3 : decide (-(N : Int) < 0) = true := decide_eq_true (by omega)
    rw [RS]
    generalize UInt8.ofNat (48 + N) = b at *
    go_enter Tryz.func40, Tryz.ntmps40
    go_wp2
    go_ret
    exact ⟨rfl, below_box w _⟩
  · have RS : twB N = decB N := by unfold twB; rw [if_neg h]
    have D0 := Lib.hid (dOf_all (N := N) (by omega))
    rw [RS]
    have d1 : decide ((-10 : Int) < -(N : Int)) = false := decide_eq_false (by omega)
    go_enter Tryz.func40, Tryz.ntmps40
    go_wp2
    go_loopw [0, 3] (fun n s wr => ∃ (k j : Nat) (t : ByteArray), n = .int .i64 (-(k : Int)) ∧ s = .string t ∧ k < 10 ^ j ∧ k ≤ N ∧ t.size + j = 19 ∧ Hid (dOf k t = decB N) ∧ (0 < k ∨ 0 < t.size) ∧ Below w.heap.size w wr) (fun n _ _ => (-(intOf n)).toNat)
    case atStart => exact ⟨N, 19, ⟨[].toArray⟩, rfl, rfl, by omega, Nat.le_refl _, rfl, D0, Or.inl (by omega), Below.refl _ _⟩
    case round =>
      obtain ⟨k, j, t, rfl, rfl, hk, hkN, hj, he, h0, hbel⟩ := hrel
      have hsz := hbel.size
      by_cases h1 : 0 < k
      · obtain ⟨b, hb⟩ : ∃ b : UInt8, b = UInt8.ofNat (48 + k % 10) := ⟨_, rfl⟩
        have hj1 : 1 ≤ j := by
          rcases Nat.eq_zero_or_pos j with rfl | h
          · simp at hk; omega
          · exact h
        obtain ⟨j, rfl⟩ : ∃ i, j = i + 1 := ⟨j - 1, by omega⟩
        have hk2 : k / 10 < 10 ^ j := by rw [Nat.pow_succ] at hk; omega
        have HE := Lib.hid ((dOf_step k t (Or.inl h1) b hb).trans he.out)
        have nz : ¬ -(k : Int) = 0 := by omega
        have e1 : Int.tmod (-(k : Int)) 10 = -((k % 10 : Nat) : Int) := by rw [Int.neg_tmod]; rfl
        have e2 : Int.tdiv (-(k : Int)) 10 = -((k / 10 : Nat) : Int) := by rw [Int.neg_tdiv]; rfl
        by_cases h2 : 0 < k % 10
        · have cv := fun W => byte_text W (48 + ((k % 10 : Nat) : Int)) b (by rw [hb, UInt8.toNat_ofNat']; omega)
          have q1 : k % 10 < 10 := by omega
          have q2 : k / 10 ≤ k := by omega
          have q3 : k / 10 < k := by omega
          clear he hb
          generalize k % 10 = r at *
          generalize k / 10 = q at *
          go_wp2
          go_roundw
          case rel => exact ⟨q, j, ⟨[b].toArray⟩ ++ t, int_eqS (by omega), rfl, hk2, by omega, by rw [ByteArray.size_append]; show 1 + t.size + j = 19; omega, HE, Or.inr (by rw [ByteArray.size_append]; show 0 < 1 + t.size; omega), hbel.alloc hsz _⟩
          case measure => simp only [intOf]; omega
        · have r0 : k % 10 = 0 := by omega
          have cv := fun W => byte_text W 48 b (by rw [hb, r0]; rfl)
          rw [r0] at e1
          have q2 : k / 10 ≤ k := by omega
          have q3 : k / 10 < k := by omega
          clear he hb h2 r0
          generalize k / 10 = q at *
          go_wp2
          go_roundw
          case rel => exact ⟨q, j, ⟨[b].toArray⟩ ++ t, int_eqS (by omega), rfl, hk2, by omega, by rw [ByteArray.size_append]; show 1 + t.size + j = 19; omega, HE, Or.inr (by rw [ByteArray.size_append]; show 0 < 1 + t.size; omega), hbel.alloc hsz _⟩
          case measure => simp only [intOf]; omega
      · have k0 : k = 0 := by omega
        subst k0
        have HE := Lib.hid (show decB N = t by rw [← he.out]; unfold dOf; rw [if_pos ⟨rfl, h0.resolve_left h1⟩])
        clear he
        go_wp2
        go_ret
        exact ⟨by rw [HE.out]; rfl, hbel⟩
theorem twice12 (n : Int) (h1 : -9000000000000000000 ≤ n) (h2 : n ≤ 9000000000000000000) (w : World) : Calls Tryz.prog 40 #[.int .i64 n] w (RetV w (.string (twB n.natAbs))) := by
  by_cases h : 0 ≤ n
  · have := twice12P n.natAbs (by omega) w
    rw [show ((n.natAbs : Nat) : Int) = n by omega] at this
    exact this
  · have := twice12N n.natAbs (by omega) (by omega) w
    rw [show -((n.natAbs : Nat) : Int) = n by omega] at this
    exact this
theorem twB_le {n : Nat} (h : n < 10000000000000000000) : (twB n).size ≤ 20 := by
  have := decB_le h
  unfold twB
  split
  · rw [ByteArray.size_append]; show 1 + (decB n).size ≤ 20; omega
  · omega
theorem toldB_le {n : Int} (h1 : -9223372036854775808 ≤ n) (h2 : n ≤ 9223372036854775807) : (toldB n).size ≤ 61 := by
  have a := twB_le (n := n.natAbs / 3600) (by omega)
  have b := twB_le (n := n.natAbs % 3600 / 60) (by omega)
  have c := twB_le (n := n.natAbs % 60) (by omega)
  unfold toldB
  rw [ByteArray.size_append, ByteArray.size_append, ByteArray.size_append]
  have x : (if n < 0 then (⟨#[45]⟩ : ByteArray) else ⟨#[43]⟩).size = 1 := by split <;> rfl
  have y : (if n.natAbs % 3600 ≠ 0 then twB (n.natAbs % 3600 / 60) else (⟨#[]⟩ : ByteArray)).size ≤ 20 := by
    split
    · exact b
    · exact Nat.zero_le _
  have z : (if n.natAbs % 60 ≠ 0 then twB (n.natAbs % 60) else (⟨#[]⟩ : ByteArray)).size ≤ 20 := by
    split
    · exact c
    · exact Nat.zero_le _
  omega
theorem txt_nil (s : ByteArray) : s ++ ⟨#[]⟩ = s := by
  apply ByteArray.ext
  rw [ByteArray.data_append]
  simp
theorem toldP11 (N : Nat) (hN : N ≤ 9223372036854775807) (hb : 0 < N % 3600) (hd : 0 < N % 60) (ta tc td : ByteArray) (_za : ta.size ≤ 20) (_zc : tc.size ≤ 20) (_zd : td.size ≤ 20) (TA : Hid (∀ (m : Int), m = ((N / 3600 : Nat) : Int) → ∀ W, Calls Tryz.prog 40 #[.int .i64 m] W (RetV W (.string ta)))) (TC : Hid (∀ (m : Int), m = ((N % 3600 / 60 : Nat) : Int) → ∀ W, Calls Tryz.prog 40 #[.int .i64 m] W (RetV W (.string tc)))) (TE : Hid (∀ (m : Int), m = ((N % 60 : Nat) : Int) → ∀ W, Calls Tryz.prog 40 #[.int .i64 m] W (RetV W (.string td)))) (w : World) : Calls Tryz.prog 25 #[.int .i64 (N : Int)] w (RetV w (.string (⟨#[43]⟩ ++ ta ++ tc ++ td))) := by
  have k := Below.refl w.heap.size w
  go_enter Tryz.func25, Tryz.ntmps25
  go_wp2_with (first | (go_at_call 40; refine (TA.out _ (by omega) _).mono ?_; clear TA; rintro e w1 ⟨rfl, k1⟩; replace k := below_thru k k1; clear k1) | (go_at_call 40; refine (TC.out _ (by omega) _).mono ?_; clear TC; rintro e w2 ⟨rfl, k2⟩; replace k := below_thru k k2; clear k2) | (go_at_call 40; refine (TE.out _ (by omega) _).mono ?_; clear TE; rintro e w3 ⟨rfl, k3⟩; replace k := below_thru k k3; clear k3))
  go_ret
  exact ⟨rfl, k⟩
theorem toldP10 (N : Nat) (hN : N ≤ 9223372036854775807) (hb : 0 < N % 3600) (hd : N % 60 = 0) (ta tc td : ByteArray) (_za : ta.size ≤ 20) (_zc : tc.size ≤ 20) (_zd : td.size ≤ 20) (TA : Hid (∀ (m : Int), m = ((N / 3600 : Nat) : Int) → ∀ W, Calls Tryz.prog 40 #[.int .i64 m] W (RetV W (.string ta)))) (TC : Hid (∀ (m : Int), m = ((N % 3600 / 60 : Nat) : Int) → ∀ W, Calls Tryz.prog 40 #[.int .i64 m] W (RetV W (.string tc)))) (_TE : Hid (∀ (m : Int), m = ((N % 60 : Nat) : Int) → ∀ W, Calls Tryz.prog 40 #[.int .i64 m] W (RetV W (.string td)))) (w : World) : Calls Tryz.prog 25 #[.int .i64 (N : Int)] w (RetV w (.string (⟨#[43]⟩ ++ ta ++ tc))) := by
  clear _TE
  have k := Below.refl w.heap.size w
  go_enter Tryz.func25, Tryz.ntmps25
  go_wp2_with (first | (go_at_call 40; refine (TA.out _ (by omega) _).mono ?_; clear TA; rintro e w1 ⟨rfl, k1⟩; replace k := below_thru k k1; clear k1) | (go_at_call 40; refine (TC.out _ (by omega) _).mono ?_; clear TC; rintro e w2 ⟨rfl, k2⟩; replace k := below_thru k k2; clear k2))
  go_ret
  exact ⟨rfl, k⟩
theorem toldP00 (N : Nat) (hN : N ≤ 9223372036854775807) (hb : N % 3600 = 0) (hd : N % 60 = 0) (ta tc td : ByteArray) (_za : ta.size ≤ 20) (_zc : tc.size ≤ 20) (_zd : td.size ≤ 20) (TA : Hid (∀ (m : Int), m = ((N / 3600 : Nat) : Int) → ∀ W, Calls Tryz.prog 40 #[.int .i64 m] W (RetV W (.string ta)))) (_TC : Hid (∀ (m : Int), m = ((N % 3600 / 60 : Nat) : Int) → ∀ W, Calls Tryz.prog 40 #[.int .i64 m] W (RetV W (.string tc)))) (_TE : Hid (∀ (m : Int), m = ((N % 60 : Nat) : Int) → ∀ W, Calls Tryz.prog 40 #[.int .i64 m] W (RetV W (.string td)))) (w : World) : Calls Tryz.prog 25 #[.int .i64 (N : Int)] w (RetV w (.string (⟨#[43]⟩ ++ ta))) := by
  clear _TC
  clear _TE
  have k := Below.refl w.heap.size w
  go_enter Tryz.func25, Tryz.ntmps25
  go_wp2_with (first | (go_at_call 40; refine (TA.out _ (by omega) _).mono ?_; clear TA; rintro e w1 ⟨rfl, k1⟩; replace k := below_thru k k1; clear k1))
  go_ret
  exact ⟨rfl, k⟩
theorem toldN11 (N : Nat) (hN0 : 0 < N) (hN : N ≤ 9223372036854775808) (hb : 0 < N % 3600) (hd : 0 < N % 60) (ta tc td : ByteArray) (_za : ta.size ≤ 20) (_zc : tc.size ≤ 20) (_zd : td.size ≤ 20) (TA : Hid (∀ (m : Int), m = -((N / 3600 : Nat) : Int) → ∀ W, Calls Tryz.prog 40 #[.int .i64 m] W (RetV W (.string ta)))) (TC : Hid (∀ (m : Int), m = -((N % 3600 / 60 : Nat) : Int) → ∀ W, Calls Tryz.prog 40 #[.int .i64 m] W (RetV W (.string tc)))) (TE : Hid (∀ (m : Int), m = -((N % 60 : Nat) : Int) → ∀ W, Calls Tryz.prog 40 #[.int .i64 m] W (RetV W (.string td)))) (w : World) : Calls Tryz.prog 25 #[.int .i64 (-(N : Int))] w (RetV w (.string (⟨#[45]⟩ ++ ta ++ tc ++ td))) := by
  have k := Below.refl w.heap.size w
  have e1 : Int.tdiv (-(N : Int)) 3600 = -((N / 3600 : Nat) : Int) := by rw [Int.neg_tdiv]; rfl
  have e2 : Int.tmod (-(N : Int)) 3600 = -((N % 3600 : Nat) : Int) := by rw [Int.neg_tmod]; rfl
  have e3 : Int.tmod (-(N : Int)) 60 = -((N % 60 : Nat) : Int) := by rw [Int.neg_tmod]; rfl
  have e4 : Int.tdiv (-((N % 3600 : Nat) : Int)) 60 = -((N % 3600 / 60 : Nat) : Int) := by rw [Int.neg_tdiv]; rfl
  have d0 : decide (-(N : Int) < 0) = true := decide_eq_true (by omega)
  have b1 : N / 3600 ≤ N := by omega
  have b2 : N % 3600 < 3600 := by omega
  have b3 : N % 3600 / 60 < 60 := by omega
  have b4 : N % 60 < 60 := by omega
  generalize N / 3600 = q at *
  generalize N % 3600 / 60 = s at *
  generalize N % 3600 = r at *
  generalize N % 60 = u at *
  go_enter Tryz.func25, Tryz.ntmps25
  go_wp2_with (first | (go_at_call 40; refine (TA.out _ (by omega) _).mono ?_; clear TA; rintro e w1 ⟨rfl, k1⟩; replace k := below_thru k k1; clear k1) | (go_at_call 40; refine (TC.out _ (by omega) _).mono ?_; clear TC; rintro e w2 ⟨rfl, k2⟩; replace k := below_thru k k2; clear k2) | (go_at_call 40; refine (TE.out _ (by omega) _).mono ?_; clear TE; rintro e w3 ⟨rfl, k3⟩; replace k := below_thru k k3; clear k3))
  go_ret
  exact ⟨rfl, k⟩
theorem toldN10 (N : Nat) (hN0 : 0 < N) (hN : N ≤ 9223372036854775808) (hb : 0 < N % 3600) (hd : N % 60 = 0) (ta tc td : ByteArray) (_za : ta.size ≤ 20) (_zc : tc.size ≤ 20) (_zd : td.size ≤ 20) (TA : Hid (∀ (m : Int), m = -((N / 3600 : Nat) : Int) → ∀ W, Calls Tryz.prog 40 #[.int .i64 m] W (RetV W (.string ta)))) (TC : Hid (∀ (m : Int), m = -((N % 3600 / 60 : Nat) : Int) → ∀ W, Calls Tryz.prog 40 #[.int .i64 m] W (RetV W (.string tc)))) (_TE : Hid (∀ (m : Int), m = -((N % 60 : Nat) : Int) → ∀ W, Calls Tryz.prog 40 #[.int .i64 m] W (RetV W (.string td)))) (w : World) : Calls Tryz.prog 25 #[.int .i64 (-(N : Int))] w (RetV w (.string (⟨#[45]⟩ ++ ta ++ tc))) := by
  clear _TE
  have k := Below.refl w.heap.size w
  have e1 : Int.tdiv (-(N : Int)) 3600 = -((N / 3600 : Nat) : Int) := by rw [Int.neg_tdiv]; rfl
  have e2 : Int.tmod (-(N : Int)) 3600 = -((N % 3600 : Nat) : Int) := by rw [Int.neg_tmod]; rfl
  have e3 : Int.tmod (-(N : Int)) 60 = -((N % 60 : Nat) : Int) := by rw [Int.neg_tmod]; rfl
  have e4 : Int.tdiv (-((N % 3600 : Nat) : Int)) 60 = -((N % 3600 / 60 : Nat) : Int) := by rw [Int.neg_tdiv]; rfl
  have d0 : decide (-(N : Int) < 0) = true := decide_eq_true (by omega)
  have b1 : N / 3600 ≤ N := by omega
  have b2 : N % 3600 < 3600 := by omega
  have b3 : N % 3600 / 60 < 60 := by omega
  have b4 : N % 60 < 60 := by omega
  generalize N / 3600 = q at *
  generalize N % 3600 / 60 = s at *
  generalize N % 3600 = r at *
  generalize N % 60 = u at *
  subst hd
  go_enter Tryz.func25, Tryz.ntmps25
  go_wp2_with (first | (go_at_call 40; refine (TA.out _ (by omega) _).mono ?_; clear TA; rintro e w1 ⟨rfl, k1⟩; replace k := below_thru k k1; clear k1) | (go_at_call 40; refine (TC.out _ (by omega) _).mono ?_; clear TC; rintro e w2 ⟨rfl, k2⟩; replace k := below_thru k k2; clear k2))
  go_ret
  exact ⟨rfl, k⟩
theorem toldN00 (N : Nat) (hN0 : 0 < N) (hN : N ≤ 9223372036854775808) (hb : N % 3600 = 0) (hd : N % 60 = 0) (ta tc td : ByteArray) (_za : ta.size ≤ 20) (_zc : tc.size ≤ 20) (_zd : td.size ≤ 20) (TA : Hid (∀ (m : Int), m = -((N / 3600 : Nat) : Int) → ∀ W, Calls Tryz.prog 40 #[.int .i64 m] W (RetV W (.string ta)))) (_TC : Hid (∀ (m : Int), m = -((N % 3600 / 60 : Nat) : Int) → ∀ W, Calls Tryz.prog 40 #[.int .i64 m] W (RetV W (.string tc)))) (_TE : Hid (∀ (m : Int), m = -((N % 60 : Nat) : Int) → ∀ W, Calls Tryz.prog 40 #[.int .i64 m] W (RetV W (.string td)))) (w : World) : Calls Tryz.prog 25 #[.int .i64 (-(N : Int))] w (RetV w (.string (⟨#[45]⟩ ++ ta))) := by
  clear _TC
  clear _TE
  have k := Below.refl w.heap.size w
  have e1 : Int.tdiv (-(N : Int)) 3600 = -((N / 3600 : Nat) : Int) := by rw [Int.neg_tdiv]; rfl
  have e2 : Int.tmod (-(N : Int)) 3600 = -((N % 3600 : Nat) : Int) := by rw [Int.neg_tmod]; rfl
  have e3 : Int.tmod (-(N : Int)) 60 = -((N % 60 : Nat) : Int) := by rw [Int.neg_tmod]; rfl
  have e4 : Int.tdiv (-((N % 3600 : Nat) : Int)) 60 = -((N % 3600 / 60 : Nat) : Int) := by rw [Int.neg_tdiv]; rfl
  have d0 : decide (-(N : Int) < 0) = true := decide_eq_true (by omega)
  have b1 : N / 3600 ≤ N := by omega
  have b2 : N % 3600 < 3600 := by omega
  have b3 : N % 3600 / 60 < 60 := by omega
  have b4 : N % 60 < 60 := by omega
  generalize N / 3600 = q at *
  generalize N % 3600 / 60 = s at *
  generalize N % 3600 = r at *
  generalize N % 60 = u at *
  subst hb
  subst hd
  go_enter Tryz.func25, Tryz.ntmps25
  go_wp2_with (first | (go_at_call 40; refine (TA.out _ (by omega) _).mono ?_; clear TA; rintro e w1 ⟨rfl, k1⟩; replace k := below_thru k k1; clear k1))
  go_ret
  exact ⟨rfl, k⟩
theorem told12 (n : Int) (h1 : -9223372036854775808 ≤ n) (h2 : n ≤ 9223372036854775807) (w : World) : Calls Tryz.prog 25 #[.int .i64 n] w (RetV w (.string (toldB n))) := by
  have TW : ∀ (N : Nat) (p : N ≤ 9000000000000000000) (m : Int), (m = (N : Int) ∨ m = -(N : Int)) → ∀ W, Calls Tryz.prog 40 #[.int .i64 m] W (RetV W (.string (twB N))) := fun N p m hm W => by
    have := twice12 m (by omega) (by omega) W
    rw [show m.natAbs = N by omega] at this
    exact this
  have aA : n.natAbs / 3600 ≤ 9000000000000000000 := by omega
  have aC : n.natAbs % 3600 / 60 ≤ 9000000000000000000 := by omega
  have aD : n.natAbs % 60 ≤ 9000000000000000000 := by omega
  have zA := twB_le (n := n.natAbs / 3600) (by omega)
  have zC := twB_le (n := n.natAbs % 3600 / 60) (by omega)
  have zD := twB_le (n := n.natAbs % 60) (by omega)
  unfold toldB
  by_cases hs : n < 0
  · rw [if_pos hs, show n = -((n.natAbs : Nat) : Int) by omega, Int.natAbs_neg, Int.natAbs_natCast]
    by_cases hb : n.natAbs % 3600 ≠ 0
    · by_cases hd : n.natAbs % 60 ≠ 0
      · rw [if_pos hb, if_pos hd]
        exact toldN11 n.natAbs (by omega) (by omega) (by omega) (by omega) _ _ _ zA zC zD (Lib.hid fun m h W => TW _ aA m (by omega) W) (Lib.hid fun m h W => TW _ aC m (by omega) W) (Lib.hid fun m h W => TW _ aD m (by omega) W) w
      · rw [if_pos hb, if_neg hd, txt_nil]
        exact toldN10 n.natAbs (by omega) (by omega) (by omega) (by omega) _ _ _ zA zC zD (Lib.hid fun m h W => TW _ aA m (by omega) W) (Lib.hid fun m h W => TW _ aC m (by omega) W) (Lib.hid fun m h W => TW _ aD m (by omega) W) w
    · by_cases hd : n.natAbs % 60 ≠ 0
      · exact absurd (show n.natAbs % 60 = 0 by omega) hd
      · rw [if_neg hb, if_neg hd, txt_nil, txt_nil]
        exact toldN00 n.natAbs (by omega) (by omega) (by omega) (by omega) _ _ _ zA zC zD (Lib.hid fun m h W => TW _ aA m (by omega) W) (Lib.hid fun m h W => TW _ aC m (by omega) W) (Lib.hid fun m h W => TW _ aD m (by omega) W) w
  · rw [if_neg hs, show n = ((n.natAbs : Nat) : Int) by omega, Int.natAbs_natCast]
    by_cases hb : n.natAbs % 3600 ≠ 0
    · by_cases hd : n.natAbs % 60 ≠ 0
      · rw [if_pos hb, if_pos hd]
        exact toldP11 n.natAbs (by omega) (by omega) (by omega) _ _ _ zA zC zD (Lib.hid fun m h W => TW _ aA m (by omega) W) (Lib.hid fun m h W => TW _ aC m (by omega) W) (Lib.hid fun m h W => TW _ aD m (by omega) W) w
      · rw [if_pos hb, if_neg hd, txt_nil]
        exact toldP10 n.natAbs (by omega) (by omega) (by omega) _ _ _ zA zC zD (Lib.hid fun m h W => TW _ aA m (by omega) W) (Lib.hid fun m h W => TW _ aC m (by omega) W) (Lib.hid fun m h W => TW _ aD m (by omega) W) w
    · by_cases hd : n.natAbs % 60 ≠ 0
      · exact absurd (show n.natAbs % 60 = 0 by omega) hd
      · rw [if_neg hb, if_neg hd, txt_nil, txt_nil]
        exact toldP00 n.natAbs (by omega) (by omega) (by omega) _ _ _ zA zC zD (Lib.hid fun m h W => TW _ aA m (by omega) W) (Lib.hid fun m h W => TW _ aC m (by omega) W) (Lib.hid fun m h W => TW _ aD m (by omega) W) w
theorem abbr12 (f l : ByteArray) (hf : f.size ≤ 1000) (hl : l.size ≤ 1000) (off save : Int) (h1 : -9223372036854775808 ≤ off) (h2 : off ≤ 9223372036854775807) (w : World) :
    Calls Tryz.prog 11 #[.string f, .string l, .int .i64 off, .int .i64 save] w (RetV w (.string (abbrB f l off save))) :=
  abbrE f l hf hl off save (fun W => told12 off h1 h2 W) (by have := toldB_le h1 h2; omega) w
end Go.Proofs.YtallclimljiplaaGreatDoor
