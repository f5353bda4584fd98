/- Package rules: slices.SortStableFunc past one block: symMerge with one element at a side. Laid by ge11v.py. -/
import Derived.Test.YtkkdclibbdeejaaDoorXElcrw
import Derived.Test.YtkkdclibbdeejaaDoorXElcrm
set_option maxRecDepth 100000
set_option maxHeartbeats 64000000
namespace Go.Proofs.YtkkdclibbdeejaaDoor
open Go.Shelf Go.RowKit Go.Lib
variable {P : Program} {k : Nat}
theorem mergeL (L : StabP P k) {blk cap a m b g : Nat} {cb : Array Value} {d0 d : Array Tg} {w0 w : World} (eg : ∀ args w, (callFunc g args).run P w = .ok (.enter g args) w) (hcmp : CmpLays P g cb encT k cfT blk 0 d0.size w0) (R : RowK encT k w0 blk 0 d0) (hs : d0.size = d.size) (S : SWK encT k w0 blk 0 d w) (e1 : m = a + 1) (h2 : m < b) (hP : PreM a m b d) (h3 : b ≤ d.size) (hsz : d.size < 1000000) :
    Calls P 58 #[.slice (some ⟨blk, 0, none⟩) d.size cap, .int .i64 a, .int .i64 m, .int .i64 b, .func (.func g) #[] cb] w fun e w' => e = .returned (.tuple #[]) ∧ ∃ d', Mgd a b d d' ∧ SWK encT k w0 blk 0 d' w' := by
  subst e1
  have FIN := Lib.hid (fun (i : Nat) (d' : Array Tg) g1 g2 lo up hr => hP.left (i := i) (d' := d') h3 g1 g2 lo up hr)
  have Z0 := Lib.hid (Rot.right d a (a + 1))
  have mixed := L.mixed; have aE := L.aE; have zE := L.zE; have t1 := L.t1; have a1 := L.a1; have z1 := L.z1; have v1 := L.v1; have t2 := L.t2; have a2 := L.a2; have z2 := L.z2; have v2 := L.v2; have t3 := L.t3; have a3 := L.a3; have z3 := L.z3; have v3 := L.v3; have t4 := L.t4; have a4 := L.a4; have z4 := L.z4; have v4 := L.v4; have t5 := L.t5; have a5 := L.a5; have z5 := L.z5; have v5 := L.v5
  have FG := L.fM
  have HC : Aside (CmpLays P g cb encT k cfT blk 0 d0.size w0) := hcmp
  have S0 : Aside (SWK encT k w0 blk 0 d w) := S
  have R0 : Aside (RowK encT k w0 blk 0 d0) := R
  clear S R L hP hcmp
  have q0 : IntKind.i64.wrap (((a : Int) + 1) - (a : Int)) = 1 := by rw [IntKind.wrap_i64]; omega
  have q1 : ((a : Int) + 1) - (a : Int) = 1 := by omega
  go_enter FG, Tryd.ntmps58
  go_wp2
  go_loopg [10, 11] (b - a) (fun kx s10 s11 wr => ∃ (i j : Nat), s10 = .int .i64 i ∧ s11 = .int .i64 j ∧ a + 1 ≤ i ∧ i ≤ j ∧ j ≤ b ∧ j - i ≤ kx ∧ Hid (i = a + 1 ∨ cfT d[i - 1]! d[a]! < 0) ∧ Hid (j = b ∨ ¬ cfT d[j]! d[a]! < 0) ∧ Aside (SWK encT k w0 blk 0 d wr))
  case atStart => exact ⟨a + 1, b, by go_num, rfl, Nat.le_refl _, by omega, Nat.le_refl _, by omega, Lib.hid (Or.inl rfl), Lib.hid (Or.inl rfl), S0⟩
  case round =>
    clear S0
    obtain ⟨i, j, rfl, rfl, hai, hij, hjb, hkx, LO, UP, S1⟩ := hrel
    by_cases hlt : i < j
    · by_cases hcf : cfT d[((i + j) / 2)]! d[a]! < 0
      · replace LO : Hid (((i + j) / 2) + 1 = a + 1 ∨ cfT d[((i + j) / 2) + 1 - 1]! d[a]! < 0) := Lib.hid (Or.inr (by rw [Nat.add_sub_cancel]; exact hcf))
        have ea : ((((i : Int) + (j : Int)) / 2)).toNat = ((i + j) / 2) := by omega
        have pa : (0 : Int) ≤ (((i : Int) + (j : Int)) / 2) := by omega
        have ba : (((i : Int) + (j : Int)) / 2) < (d.size : Int) := by omega
        have ra : IntKind.i64.wrap ((((i : Int) + (j : Int)) / 2)) = (((i : Int) + (j : Int)) / 2) := by rw [IntKind.wrap_i64]; omega
        have ec : ((a : Int)).toNat = a := by omega
        have pc : (0 : Int) ≤ (a : Int) := by omega
        have bc : (a : Int) < (d.size : Int) := by omega
        have rc : IntKind.i64.wrap ((a : Int)) = (a : Int) := by rw [IntKind.wrap_i64]; omega
        obtain ⟨x0, hx0⟩ : ∃ x, x = d[((i + j) / 2)]! := ⟨_, rfl⟩
        obtain ⟨y0, hy0⟩ : ∃ x, x = d[a]! := ⟨_, rfl⟩
        have la := S1.out.ld R0.out (by omega) P (((i + j) / 2)) (by omega)
        have lb := S1.out.ld R0.out (by omega) P (a) (by omega)
        rw [← hx0] at la
        rw [← hy0] at lb
        simp only [Nat.zero_add] at la lb
        have hc := S1.out.cmp HC.out (by omega) x0 y0
        have hv : cfT x0 y0 < 0 := by rw [hx0, hy0]; exact hcf
        have hd : decide (cfT x0 y0 < 0) = true := decide_eq_true hv
        clear hx0 hy0
        go_wp2_with fail
        go_quiet_grown (first | (go_at_fn g; refine Calls.grown_of (hc _ _)))
        have S2 : Aside (SWK encT k w0 blk 0 d (Sort.grow (wr.drewN nq) osq)) := S1.out.grown nq osq
        clear la lb hc S1 hv hd
        generalize Sort.grow (wr.drewN nq) osq = w2 at S2 ⊢
        clear nq osq
        go_wp2
        go_roundg (j - (((i + j) / 2) + 1))
        case measure => omega
        case rel => exact ⟨((i + j) / 2) + 1, j, by rw [show (((i : Int) + (j : Int)) / 2) + 1 = (((((i + j) / 2) + 1 : Nat)) : Int) by omega], rfl, by omega, by omega, hjb, Nat.le_refl _, LO, UP, S2⟩
      · replace UP : Hid (((i + j) / 2) = b ∨ ¬ cfT d[((i + j) / 2)]! d[a]! < 0) := Lib.hid (Or.inr hcf)
        have ea : ((((i : Int) + (j : Int)) / 2)).toNat = ((i + j) / 2) := by omega
        have pa : (0 : Int) ≤ (((i : Int) + (j : Int)) / 2) := by omega
        have ba : (((i : Int) + (j : Int)) / 2) < (d.size : Int) := by omega
        have ra : IntKind.i64.wrap ((((i : Int) + (j : Int)) / 2)) = (((i : Int) + (j : Int)) / 2) := by rw [IntKind.wrap_i64]; omega
        have ec : ((a : Int)).toNat = a := by omega
        have pc : (0 : Int) ≤ (a : Int) := by omega
        have bc : (a : Int) < (d.size : Int) := by omega
        have rc : IntKind.i64.wrap ((a : Int)) = (a : Int) := by rw [IntKind.wrap_i64]; omega
        obtain ⟨x0, hx0⟩ : ∃ x, x = d[((i + j) / 2)]! := ⟨_, rfl⟩
        obtain ⟨y0, hy0⟩ : ∃ x, x = d[a]! := ⟨_, rfl⟩
        have la := S1.out.ld R0.out (by omega) P (((i + j) / 2)) (by omega)
        have lb := S1.out.ld R0.out (by omega) P (a) (by omega)
        rw [← hx0] at la
        rw [← hy0] at lb
        simp only [Nat.zero_add] at la lb
        have hc := S1.out.cmp HC.out (by omega) x0 y0
        have hv : ¬ cfT x0 y0 < 0 := by rw [hx0, hy0]; exact hcf
        have hd : decide (cfT x0 y0 < 0) = false := decide_eq_false hv
        clear hx0 hy0
        go_wp2_with fail
        go_quiet_grown (first | (go_at_fn g; refine Calls.grown_of (hc _ _)))
        have S2 : Aside (SWK encT k w0 blk 0 d (Sort.grow (wr.drewN nq) osq)) := S1.out.grown nq osq
        clear la lb hc S1 hv hd
        generalize Sort.grow (wr.drewN nq) osq = w2 at S2 ⊢
        clear nq osq
        go_wp2
        go_roundg (((i + j) / 2) - i)
        case measure => omega
        case rel => exact ⟨i, ((i + j) / 2), rfl, by rw [show (((i : Int) + (j : Int)) / 2) = ((((i + j) / 2) : Nat) : Int) by omega], hai, by omega, by omega, Nat.le_refl _, LO, UP, S2⟩
    · obtain rfl : i = j := by omega
      replace FIN := Lib.hid (fun d' hr => FIN.out i d' hai hjb LO.out (UP.out.imp id Int.not_lt.1) hr)
      clear LO UP
      have q2 : IntKind.i64.wrap ((i : Int) - 1) = (i : Int) - 1 := by rw [IntKind.wrap_i64]; omega
      go_wp2
      go_loopg [13] (i - a) (fun kx s13 wr => ∃ (p : Nat) (dk : Array Tg), s13 = .int .i64 p ∧ a ≤ p ∧ p + 1 ≤ i ∧ i - p ≤ kx ∧ dk.size = d.size ∧ Hid (Rot d dk a (a + 1) (p + 1)) ∧ Aside (SWK encT k w0 blk 0 dk wr))
      case atStart => exact ⟨a, d, rfl, Nat.le_refl _, hai, Nat.le_refl _, rfl, Z0, S1⟩
      case round =>
        clear S1 Z0
        obtain ⟨p, dk, rfl, hap, hpi, hkx2, hds, HR, S1⟩ := hrel
        by_cases hlt2 : p < i - 1
        · have hlz : (p : Int) < (i : Int) - 1 := by omega
          replace HR := Lib.hid (HR.out.up hap (by omega))
          have ea : ((p : Int)).toNat = p := by omega
          have pa : (0 : Int) ≤ (p : Int) := by omega
          have ba : (p : Int) < (d.size : Int) := by omega
          have ra : IntKind.i64.wrap ((p : Int)) = (p : Int) := by rw [IntKind.wrap_i64]; omega
          have ec : ((p : Int) + 1).toNat = p + 1 := by omega
          have pc : (0 : Int) ≤ (p : Int) + 1 := by omega
          have bc : (p : Int) + 1 < (d.size : Int) := by omega
          have rc : IntKind.i64.wrap ((p : Int) + 1) = (p : Int) + 1 := by rw [IntKind.wrap_i64]; omega
          have S2 : Aside (SWK encT k w0 blk 0 (Sort.swp dk (p) (p + 1)) ((wr.drew.setCells blk (0 + (p) * k) (encT dk[p + 1]!)).setCells blk (0 + (p + 1) * k) (encT dk[p]!))) := S1.out.swapped R0.out (p) (p + 1) (by omega) (by omega)
          have la := S1.out.ld1 R0.out (by omega) P (p) (by omega)
          have lb := S1.out.ld1 R0.out (by omega) P (p + 1) (by omega)
          have sa := S1.out.st1 R0.out (by omega) P (p) (by omega) dk[p + 1]!
          have sb := S1.out.st2 R0.out (by omega) P (p) (p + 1) (by omega) (by omega) dk[p + 1]! dk[p]!
          have na : (encT dk[p]!).length = k := R0.out.hk _
          have nb : (encT dk[p + 1]!).length = k := R0.out.hk _
          generalize encT dk[p]! = cI at S2 la sb na
          generalize encT dk[p + 1]! = cJ at S2 lb sa sb nb
          rw [Nat.zero_add, Nat.zero_add] at sb S2
          rw [Nat.zero_add] at la lb sa
          clear S1
          go_wp2_with fail
          go_big_region_o
          clear la lb sa sb
          generalize (wr.drew.setCells blk ((p) * k) cJ).setCells blk ((p + 1) * k) cI = w2 at S2 ⊢
          go_wp2
          go_roundg (i - (p + 1))
          case measure => omega
          case rel => exact ⟨p + 1, Sort.swp dk p (p + 1), by go_num, by omega, by omega, Nat.le_refl _, by rw [Sort.size_swp]; exact hds, HR, S2⟩
        · have hlz : ¬ (p : Int) < (i : Int) - 1 := by omega
          have ep : p + 1 = i := by omega
          replace HR := HR.out
          rw [ep] at HR
          replace HR := Lib.hid HR
          go_wp2
          (try simp only [Exit.inBlock, Exit.then]); refine bodyPost_ret (results_none rfl _ _ _) rfl ?_
          exact ⟨rfl, dk, FIN.out _ HR.out, S1.out⟩
theorem mergeR (L : StabP P k) {blk cap a m b g : Nat} {cb : Array Value} {d0 d : Array Tg} {w0 w : World} (eg : ∀ args w, (callFunc g args).run P w = .ok (.enter g args) w) (hcmp : CmpLays P g cb encT k cfT blk 0 d0.size w0) (R : RowK encT k w0 blk 0 d0) (hs : d0.size = d.size) (S : SWK encT k w0 blk 0 d w) (e1 : b = m + 1) (h1 : a + 1 < m) (hP : PreM a m b d) (h3 : b ≤ d.size) (hsz : d.size < 1000000) :
    Calls P 58 #[.slice (some ⟨blk, 0, none⟩) d.size cap, .int .i64 a, .int .i64 m, .int .i64 b, .func (.func g) #[] cb] w fun e w' => e = .returned (.tuple #[]) ∧ ∃ d', Mgd a b d d' ∧ SWK encT k w0 blk 0 d' w' := by
  subst e1
  have FIN := Lib.hid (fun (i : Nat) (d' : Array Tg) g1 g2 lo up hr => hP.right (i := i) (d' := d') h3 g1 g2 lo up hr)
  have Z0 := Lib.hid (Rot.left d m (m + 1) (by omega))
  have mixed := L.mixed; have aE := L.aE; have zE := L.zE; have t1 := L.t1; have a1 := L.a1; have z1 := L.z1; have v1 := L.v1; have t2 := L.t2; have a2 := L.a2; have z2 := L.z2; have v2 := L.v2; have t3 := L.t3; have a3 := L.a3; have z3 := L.z3; have v3 := L.v3; have t4 := L.t4; have a4 := L.a4; have z4 := L.z4; have v4 := L.v4; have t5 := L.t5; have a5 := L.a5; have z5 := L.z5; have v5 := L.v5
  have FG := L.fM
  have HC : Aside (CmpLays P g cb encT k cfT blk 0 d0.size w0) := hcmp
  have S0 : Aside (SWK encT k w0 blk 0 d w) := S
  have R0 : Aside (RowK encT k w0 blk 0 d0) := R
  clear S R L hP hcmp
  have q0 : IntKind.i64.wrap ((m : Int) - (a : Int)) = (m : Int) - (a : Int) := by rw [IntKind.wrap_i64]; omega
  have q1 : ¬ (m : Int) - (a : Int) = 1 := by omega
  have q2 : IntKind.i64.wrap (((m : Int) + 1) - (m : Int)) = 1 := by rw [IntKind.wrap_i64]; omega
  have q3 : ((m : Int) + 1) - (m : Int) = 1 := by omega
  go_enter FG, Tryd.ntmps58
  go_wp2
  go_loopg [14, 15] (m - a) (fun kx s10 s11 wr => ∃ (i j : Nat), s10 = .int .i64 i ∧ s11 = .int .i64 j ∧ a ≤ i ∧ i ≤ j ∧ j ≤ m ∧ j - i ≤ kx ∧ Hid (i = a ∨ ¬ cfT d[m]! d[i - 1]! < 0) ∧ Hid (j = m ∨ cfT d[m]! d[j]! < 0) ∧ Aside (SWK encT k w0 blk 0 d wr))
  case atStart => exact ⟨a, m, rfl, rfl, Nat.le_refl _, by omega, Nat.le_refl _, by omega, Lib.hid (Or.inl rfl), Lib.hid (Or.inl rfl), S0⟩
  case round =>
    clear S0
    obtain ⟨i, j, rfl, rfl, hai, hij, hjb, hkx, LO, UP, S1⟩ := hrel
    by_cases hlt : i < j
    · by_cases hcf : cfT d[m]! d[((i + j) / 2)]! < 0
      · replace UP : Hid (((i + j) / 2) = m ∨ cfT d[m]! d[((i + j) / 2)]! < 0) := Lib.hid (Or.inr hcf)
        have ea : ((m : Int)).toNat = m := by omega
        have pa : (0 : Int) ≤ (m : Int) := by omega
        have ba : (m : Int) < (d.size : Int) := by omega
        have ra : IntKind.i64.wrap ((m : Int)) = (m : Int) := by rw [IntKind.wrap_i64]; omega
        have ec : ((((i : Int) + (j : Int)) / 2)).toNat = ((i + j) / 2) := by omega
        have pc : (0 : Int) ≤ (((i : Int) + (j : Int)) / 2) := by omega
        have bc : (((i : Int) + (j : Int)) / 2) < (d.size : Int) := by omega
        have rc : IntKind.i64.wrap ((((i : Int) + (j : Int)) / 2)) = (((i : Int) + (j : Int)) / 2) := by rw [IntKind.wrap_i64]; omega
        obtain ⟨x0, hx0⟩ : ∃ x, x = d[m]! := ⟨_, rfl⟩
        obtain ⟨y0, hy0⟩ : ∃ x, x = d[((i + j) / 2)]! := ⟨_, rfl⟩
        have la := S1.out.ld R0.out (by omega) P (m) (by omega)
        have lb := S1.out.ld R0.out (by omega) P (((i + j) / 2)) (by omega)
        rw [← hx0] at la
        rw [← hy0] at lb
        simp only [Nat.zero_add] at la lb
        have hc := S1.out.cmp HC.out (by omega) x0 y0
        have hv : cfT x0 y0 < 0 := by rw [hx0, hy0]; exact hcf
        have hd : decide (cfT x0 y0 < 0) = true := decide_eq_true hv
        clear hx0 hy0
        go_wp2_with fail
        go_quiet_grown (first | (go_at_fn g; refine Calls.grown_of (hc _ _)))
        have S2 : Aside (SWK encT k w0 blk 0 d (Sort.grow (wr.drewN nq) osq)) := S1.out.grown nq osq
        clear la lb hc S1 hv hd
        generalize Sort.grow (wr.drewN nq) osq = w2 at S2 ⊢
        clear nq osq
        go_wp2
        go_roundg (((i + j) / 2) - i)
        case measure => omega
        case rel => exact ⟨i, ((i + j) / 2), rfl, by rw [show (((i : Int) + (j : Int)) / 2) = ((((i + j) / 2) : Nat) : Int) by omega], hai, by omega, by omega, Nat.le_refl _, LO, UP, S2⟩
      · replace LO : Hid (((i + j) / 2) + 1 = a ∨ ¬ cfT d[m]! d[((i + j) / 2) + 1 - 1]! < 0) := Lib.hid (Or.inr (by rw [Nat.add_sub_cancel]; exact hcf))
        have ea : ((m : Int)).toNat = m := by omega
        have pa : (0 : Int) ≤ (m : Int) := by omega
        have ba : (m : Int) < (d.size : Int) := by omega
        have ra : IntKind.i64.wrap ((m : Int)) = (m : Int) := by rw [IntKind.wrap_i64]; omega
        have ec : ((((i : Int) + (j : Int)) / 2)).toNat = ((i + j) / 2) := by omega
        have pc : (0 : Int) ≤ (((i : Int) + (j : Int)) / 2) := by omega
        have bc : (((i : Int) + (j : Int)) / 2) < (d.size : Int) := by omega
        have rc : IntKind.i64.wrap ((((i : Int) + (j : Int)) / 2)) = (((i : Int) + (j : Int)) / 2) := by rw [IntKind.wrap_i64]; omega
        obtain ⟨x0, hx0⟩ : ∃ x, x = d[m]! := ⟨_, rfl⟩
        obtain ⟨y0, hy0⟩ : ∃ x, x = d[((i + j) / 2)]! := ⟨_, rfl⟩
        have la := S1.out.ld R0.out (by omega) P (m) (by omega)
        have lb := S1.out.ld R0.out (by omega) P (((i + j) / 2)) (by omega)
        rw [← hx0] at la
        rw [← hy0] at lb
        simp only [Nat.zero_add] at la lb
        have hc := S1.out.cmp HC.out (by omega) x0 y0
        have hv : ¬ cfT x0 y0 < 0 := by rw [hx0, hy0]; exact hcf
        have hd : decide (cfT x0 y0 < 0) = false := decide_eq_false hv
        clear hx0 hy0
        go_wp2_with fail
        go_quiet_grown (first | (go_at_fn g; refine Calls.grown_of (hc _ _)))
        have S2 : Aside (SWK encT k w0 blk 0 d (Sort.grow (wr.drewN nq) osq)) := S1.out.grown nq osq
        clear la lb hc S1 hv hd
        generalize Sort.grow (wr.drewN nq) osq = w2 at S2 ⊢
        clear nq osq
        go_wp2
        go_roundg (j - (((i + j) / 2) + 1))
        case measure => omega
        case rel => exact ⟨((i + j) / 2) + 1, j, by rw [show (((i : Int) + (j : Int)) / 2) + 1 = (((((i + j) / 2) + 1 : Nat)) : Int) by omega], rfl, by omega, by omega, hjb, Nat.le_refl _, LO, UP, S2⟩
    · obtain rfl : i = j := by omega
      replace FIN := Lib.hid (fun d' hr => FIN.out i d' hai hjb (LO.out.imp id Int.not_lt.1) UP.out hr)
      clear LO UP
      go_wp2
      go_loopg [17] (m - i) (fun kx s17 wr => ∃ (p : Nat) (dk : Array Tg), s17 = .int .i64 p ∧ i ≤ p ∧ p ≤ m ∧ p - i ≤ kx ∧ dk.size = d.size ∧ Hid (Rot d dk p m (m + 1)) ∧ Aside (SWK encT k w0 blk 0 dk wr))
      case atStart => exact ⟨m, d, rfl, hjb, Nat.le_refl _, Nat.le_refl _, rfl, Z0, S1⟩
      case round =>
        clear S1 Z0
        obtain ⟨p, dk, rfl, hip, hpm, hkx2, hds, HR, S1⟩ := hrel
        by_cases hlt2 : i < p
        · obtain ⟨o, rfl⟩ : ∃ o, p = o + 1 := ⟨p - 1, by omega⟩
          have hlz : (i : Int) < (o : Int) + 1 := by omega
          replace HR := Lib.hid (HR.out.down hpm (by omega))
          have qo : (o : Int) + 1 - 1 = (o : Int) := by omega
          have ea : ((o : Int) + 1).toNat = o + 1 := by omega
          have pa : (0 : Int) ≤ (o : Int) + 1 := by omega
          have ba : (o : Int) + 1 < (d.size : Int) := by omega
          have ra : IntKind.i64.wrap ((o : Int) + 1) = (o : Int) + 1 := by rw [IntKind.wrap_i64]; omega
          have ec : ((o : Int)).toNat = o := by omega
          have pc : (0 : Int) ≤ (o : Int) := by omega
          have bc : (o : Int) < (d.size : Int) := by omega
          have rc : IntKind.i64.wrap ((o : Int)) = (o : Int) := by rw [IntKind.wrap_i64]; omega
          have S2 : Aside (SWK encT k w0 blk 0 (Sort.swp dk (o + 1) (o)) ((wr.drew.setCells blk (0 + (o + 1) * k) (encT dk[o]!)).setCells blk (0 + (o) * k) (encT dk[o + 1]!))) := S1.out.swapped R0.out (o + 1) (o) (by omega) (by omega)
          have la := S1.out.ld1 R0.out (by omega) P (o + 1) (by omega)
          have lb := S1.out.ld1 R0.out (by omega) P (o) (by omega)
          have sa := S1.out.st1 R0.out (by omega) P (o + 1) (by omega) dk[o]!
          have sb := S1.out.st2 R0.out (by omega) P (o + 1) (o) (by omega) (by omega) dk[o]! dk[o + 1]!
          have na : (encT dk[o + 1]!).length = k := R0.out.hk _
          have nb : (encT dk[o]!).length = k := R0.out.hk _
          generalize encT dk[o + 1]! = cI at S2 la sb na
          generalize encT dk[o]! = cJ at S2 lb sa sb nb
          rw [Nat.zero_add, Nat.zero_add] at sb S2
          rw [Nat.zero_add] at la lb sa
          clear S1
          go_wp2_with fail
          go_big_region_o
          clear la lb sa sb
          generalize (wr.drew.setCells blk ((o + 1) * k) cJ).setCells blk ((o) * k) cI = w2 at S2 ⊢
          go_wp2
          go_roundg (o - i)
          case measure => omega
          case rel => exact ⟨o, Sort.swp dk (o + 1) o, by go_num, by omega, by omega, Nat.le_refl _, by rw [Sort.size_swp]; exact hds, HR, S2⟩
        · have hlz : ¬ (i : Int) < (p : Int) := by omega
          obtain rfl : p = i := by omega
          go_wp2
          (try simp only [Exit.inBlock, Exit.then]); refine bodyPost_ret (results_none rfl _ _ _) rfl ?_
          exact ⟨rfl, dk, FIN.out _ HR.out, S1.out⟩
end Go.Proofs.YtkkdclibbdeejaaDoor
