/- Package rules: slices.SortStableFunc past one block: symMerge. Laid by ge11w.py. -/
import Derived.Test.YtkkdclibbdeejaaDoorXElcrs
set_option maxRecDepth 100000
set_option maxHeartbeats 64000000
namespace Go.Proofs.YtkkdclibbdeejaaDoor
open Go.Shelf Go.RowKit Go.Lib
variable {P : Program} {k : Nat}
theorem PreM.triv {a m b : Nat} {d : Array Tg} (h : PreM a m b d) (e : m = a ∨ m = b) : Mgd a b d d := by
  rcases e with rfl | rfl
  · exact h.trivL
  · exact h.trivR
def CutP (a s mid e b : Nat) (d d1 : Array Tg) : Prop := PreM a s mid d1 ∧ ∀ d2, Mgd a mid d1 d2 → PreM mid e b d2 ∧ ∀ d3, Mgd mid b d2 d3 → Mgd a b d d3
def CutQ (a mid e b : Nat) (d d2 : Array Tg) : Prop := PreM mid e b d2 ∧ ∀ d3, Mgd mid b d2 d3 → Mgd a b d d3
theorem CutP.next {a s mid e b : Nat} {d d1 d2 : Array Tg} (h : CutP a s mid e b d d1) (g : Mgd a mid d1 d2) : CutQ a mid e b d d2 := h.2 d2 g
theorem CutQ.next {a mid e b : Nat} {d d2 d3 : Array Tg} (h : CutQ a mid e b d d2) (g : Mgd mid b d2 d3) : Mgd a b d d3 := h.2 d3 g
theorem mergeG (L : StabP P k) {blk cap a m b g : Nat} {cb : Array Value} {d0 d : Array Tg} {w0 w : World} (eg : ∀ args w, (callFunc g args).run P w = .ok (.enter g args) w) (hcmp : CmpLays P g cb encT k cfT blk 0 d0.size w0) (R : RowK encT k w0 blk 0 d0) (hs : d0.size = d.size) (S : SWK encT k w0 blk 0 d w) (h1 : a + 1 < m) (h2 : m + 1 < b) (hP : PreM a m b d) (IH : ∀ (a' m' b' : Nat) (d' : Array Tg) (W : World), b' - a' < b - a → a' < m' → m' < b' → b' ≤ d.size → d'.size = d.size → PreM a' m' b' d' → SWK encT k w0 blk 0 d' W → Calls P 58 #[.slice (some ⟨blk, 0, none⟩) d.size cap, .int .i64 a', .int .i64 m', .int .i64 b', .func (.func g) #[] cb] W fun e w' => e = .returned (.tuple #[]) ∧ ∃ d'', Mgd a' b' d' d'' ∧ SWK encT k w0 blk 0 d'' w') (h3 : b ≤ d.size) (hsz : d.size < 1000000) :
    Calls P 58 #[.slice (some ⟨blk, 0, none⟩) d.size cap, .int .i64 a, .int .i64 m, .int .i64 b, .func (.func g) #[] cb] w fun e w' => e = .returned (.tuple #[]) ∧ ∃ d', Mgd a b d d' ∧ SWK encT k w0 blk 0 d' w' := by
  have CR := Lib.hid (fun (s e : Nat) (W : World) (S' : SWK encT k w0 blk 0 d W) (g1 : s < m) (g2 : m < e) (g3 : e ≤ d.size) => rotE (cap := cap) L (.func (.func g) #[] cb) R hs S' g1 g2 g3 hsz)
  replace IH := Lib.hid IH
  obtain ⟨mid, hmid⟩ : ∃ mid, mid = (a + b) / 2 := ⟨_, rfl⟩
  obtain ⟨n, hn⟩ : ∃ n, n = mid + m := ⟨_, rfl⟩
  obtain ⟨p, hp⟩ : ∃ p, p = n - 1 := ⟨_, rfl⟩
  have TAIL := Lib.hid (fun (s s0 r0 : Nat) (d1 : Array Tg) k1 k2 h1' h2' lo up hr => (hP.cut (s := s) (s0 := s0) (r0 := r0) (d1 := d1) h3 (by omega) (by omega) hmid k1 k2 h1' h2' lo up hr).2.2.2.2.2.2)
  have HN : Hid (n = mid + m) := Lib.hid hn
  have mm1 : 2 * mid ≤ a + b := by omega
  have mm2 : a + b ≤ 2 * mid + 1 := by omega
  have nn1 : n ≤ mid + m := by omega
  have nn2 : mid + m ≤ n := by omega
  have pp1 : p + 1 ≤ n := by omega
  have pp2 : n ≤ p + 1 := by omega
  clear hmid hn hp
  have mixed := L.mixed; have aE := L.aE; have zE := L.zE; have t1 := L.t1; have a1 := L.a1; have z1 := L.z1; have v1 := L.v1; have t2 := L.t2; have a2 := L.a2; have z2 := L.z2; have v2 := L.v2; have t3 := L.t3; have a3 := L.a3; have z3 := L.z3; have v3 := L.v3; have t4 := L.t4; have a4 := L.a4; have z4 := L.z4; have v4 := L.v4; have t5 := L.t5; have a5 := L.a5; have z5 := L.z5; have v5 := L.v5
  have FG := L.fM
  have er : ∀ args w, (callFunc 69 args).run P w = .ok (.enter 69 args) w := enters_of L.fR (by kernel_rfl) rfl
  have em : ∀ args w, (callFunc 58 args).run P w = .ok (.enter 58 args) w := enters_of L.fM (by kernel_rfl) rfl
  have HC : Aside (CmpLays P g cb encT k cfT blk 0 d0.size w0) := hcmp
  have S0 : Aside (SWK encT k w0 blk 0 d w) := S
  have R0 : Aside (RowK encT k w0 blk 0 d0) := R
  clear S R L hP hcmp
  have q0 : IntKind.i64.wrap ((m : Int) - (a : Int)) = (m : Int) - (a : Int) := by rw [IntKind.wrap_i64]; omega
  have q1 : ¬ (m : Int) - (a : Int) = 1 := by omega
  have q2 : IntKind.i64.wrap ((b : Int) - (m : Int)) = (b : Int) - (m : Int) := by rw [IntKind.wrap_i64]; omega
  have q3 : ¬ (b : Int) - (m : Int) = 1 := by omega
  have Q4 : Hid (((a : Int) + (b : Int)) / 2 = (mid : Int)) := Lib.hid (by omega)
  have q5 : (mid : Int) + (m : Int) = (n : Int) := by omega
  have q6 : (n : Int) - 1 = (p : Int) := by omega
  by_cases cc : mid < m
  · have cz : ((a : Int) + (b : Int)) / 2 < (m : Int) := by omega
    obtain ⟨s0, hs0⟩ : ∃ s0, s0 = n - b := ⟨_, rfl⟩
    have q7 : (n : Int) - (b : Int) = (s0 : Int) := by omega
    have ss1 : s0 + b ≤ n := by omega
    have ss2 : n ≤ s0 + b := by omega
    clear hs0
    go_enter FG, Tryd.ntmps58
    go_wp2
    simp only [Q4.out, q5, q6, q7]
    clear cz
    go_loopg [20, 21] (mid - s0) (fun kx s20 s21 wr => ∃ (s r : Nat), s20 = .int .i64 s ∧ s21 = .int .i64 r ∧ s0 ≤ s ∧ s ≤ r ∧ r ≤ mid ∧ r - s ≤ kx ∧ Hid (s = s0 ∨ ¬ cfT d[n - s]! d[s - 1]! < 0) ∧ Hid (r = mid ∨ cfT d[n - r - 1]! d[r]! < 0) ∧ Aside (SWK encT k w0 blk 0 d wr))
    case atStart => exact ⟨s0, mid, by go_num, by go_num, Nat.le_refl _, by omega, Nat.le_refl _, Nat.le_refl _, Lib.hid (Or.inl rfl), Lib.hid (Or.inl rfl), S0⟩
    case round =>
      clear S0
      obtain ⟨s, r, rfl, rfl, hsl, hsr, hrl, hkx, LO, UP, S1⟩ := hrel
      by_cases hlt : s < r
      · clear TAIL IH CR
        obtain ⟨h, hh⟩ : ∃ h, h = (s + r) / 2 := ⟨_, rfl⟩
        have QH : Hid (((s : Int) + (r : Int)) / 2 = (h : Int)) := Lib.hid (by omega)
        have hb1 : 2 * h ≤ s + r := by omega
        have hb2 : s + r ≤ 2 * h + 1 := by omega
        clear hh
        by_cases hcf : cfT d[p - h]! d[h]! < 0
        · replace UP : Hid (h = mid ∨ cfT d[n - h - 1]! d[h]! < 0) := Lib.hid (Or.inr (by rw [show n - h - 1 = p - h by omega]; exact hcf))
          have ea : ((p : Int) - (h : Int)).toNat = p - h := by omega
          have pa : (0 : Int) ≤ (p : Int) - (h : Int) := by omega
          have ba : (p : Int) - (h : Int) < (d.size : Int) := by omega
          have ra : IntKind.i64.wrap ((p : Int) - (h : Int)) = (p : Int) - (h : Int) := by rw [IntKind.wrap_i64]; omega
          have ec : ((h : Int)).toNat = h := by omega
          have pc : (0 : Int) ≤ (h : Int) := by omega
          have bc : (h : Int) < (d.size : Int) := by omega
          have rc : IntKind.i64.wrap ((h : Int)) = (h : Int) := by rw [IntKind.wrap_i64]; omega
          obtain ⟨x0, hx0⟩ : ∃ x, x = d[p - h]! := ⟨_, rfl⟩
          obtain ⟨y0, hy0⟩ : ∃ x, x = d[h]! := ⟨_, rfl⟩
          have la := S1.out.ld R0.out (by omega) P (p - h) (by omega)
          have lb := S1.out.ld R0.out (by omega) P (h) (by omega)
          rw [← hx0] at la
          rw [← hy0] at lb
          simp only [Nat.zero_add] at la lb
          have hc := S1.out.cmp HC.out (by omega) x0 y0
          have hv : cfT x0 y0 < 0 := by rw [hx0, hy0]; exact hcf
          have hd : decide (cfT x0 y0 < 0) = true := decide_eq_true hv
          clear hx0 hy0
          have p2 : (h : Int) ≤ (p : Int) := by omega
          have p3 : h ≤ p := by omega
          have p4 : (p : Int) < (d.size : Int) + (h : Int) := by omega
          have p5 : p - h < d.size := by omega
          go_wp2_with fail
          simp only [QH.out]
          go_quiet_grown (first | (go_at_fn g; refine Calls.grown_of (hc _ _)))
          have S2 : Aside (SWK encT k w0 blk 0 d (Sort.grow (wr.drewN nq) osq)) := S1.out.grown nq osq
          clear la lb hc S1 hv hd
          generalize Sort.grow (wr.drewN nq) osq = w2 at S2 ⊢
          clear nq osq
          go_wp2
          go_roundg (h - s)
          case measure => omega
          case rel => exact ⟨s, h, rfl, by go_num, hsl, by omega, by omega, Nat.le_refl _, LO, UP, S2⟩
        · replace LO : Hid (h + 1 = s0 ∨ ¬ cfT d[n - (h + 1)]! d[h + 1 - 1]! < 0) := Lib.hid (Or.inr (by rw [Nat.add_sub_cancel, show n - (h + 1) = p - h by omega]; exact hcf))
          have ea : ((p : Int) - (h : Int)).toNat = p - h := by omega
          have pa : (0 : Int) ≤ (p : Int) - (h : Int) := by omega
          have ba : (p : Int) - (h : Int) < (d.size : Int) := by omega
          have ra : IntKind.i64.wrap ((p : Int) - (h : Int)) = (p : Int) - (h : Int) := by rw [IntKind.wrap_i64]; omega
          have ec : ((h : Int)).toNat = h := by omega
          have pc : (0 : Int) ≤ (h : Int) := by omega
          have bc : (h : Int) < (d.size : Int) := by omega
          have rc : IntKind.i64.wrap ((h : Int)) = (h : Int) := by rw [IntKind.wrap_i64]; omega
          obtain ⟨x0, hx0⟩ : ∃ x, x = d[p - h]! := ⟨_, rfl⟩
          obtain ⟨y0, hy0⟩ : ∃ x, x = d[h]! := ⟨_, rfl⟩
          have la := S1.out.ld R0.out (by omega) P (p - h) (by omega)
          have lb := S1.out.ld R0.out (by omega) P (h) (by omega)
          rw [← hx0] at la
          rw [← hy0] at lb
          simp only [Nat.zero_add] at la lb
          have hc := S1.out.cmp HC.out (by omega) x0 y0
          have hv : ¬ cfT x0 y0 < 0 := by rw [hx0, hy0]; exact hcf
          have hd : decide (cfT x0 y0 < 0) = false := decide_eq_false hv
          clear hx0 hy0
          have p2 : (h : Int) ≤ (p : Int) := by omega
          have p3 : h ≤ p := by omega
          have p4 : (p : Int) < (d.size : Int) + (h : Int) := by omega
          have p5 : p - h < d.size := by omega
          go_wp2_with fail
          simp only [QH.out]
          go_quiet_grown (first | (go_at_fn g; refine Calls.grown_of (hc _ _)))
          have S2 : Aside (SWK encT k w0 blk 0 d (Sort.grow (wr.drewN nq) osq)) := S1.out.grown nq osq
          clear la lb hc S1 hv hd
          generalize Sort.grow (wr.drewN nq) osq = w2 at S2 ⊢
          clear nq osq
          go_wp2
          go_roundg (r - (h + 1))
          case measure => omega
          case rel => exact ⟨h + 1, r, by go_num, rfl, by omega, by omega, hrl, Nat.le_refl _, LO, UP, S2⟩
      · obtain rfl : s = r := by omega
        obtain ⟨e, he⟩ : ∃ e, e = n - s := ⟨_, rfl⟩
        have q8 : (n : Int) - (s : Int) = (e : Int) := by omega
        have HE : Hid (e = n - s) := Lib.hid he
        have ee1 : e + s ≤ n := by omega
        have ee2 : n ≤ e + s := by omega
        clear he
        replace TAIL : Hid (∀ d1, Rot d d1 s m e → CutP a s mid e b d d1) := Lib.hid (fun d1 hr => by
          have lo := LO.out; have up := UP.out; have tl := TAIL.out s s0 mid d1
          rw [← HN.out, ← HE.out] at tl; rw [← HE.out] at lo up
          exact tl (fun _ => ⟨by omega, rfl⟩) (fun h => absurd cc h) hsl hrl (lo.imp id Int.not_lt.1) up hr)
        clear LO UP
        rcases (show (s < m ∧ m < e) ∨ m ≤ s ∨ (s < m ∧ e ≤ m) by omega) with ⟨_, _⟩ | _ | ⟨_, _⟩
        · have zxsme : (s : Int) < (m : Int) := by omega
          have zysme : (m : Int) < (e : Int) := by omega
          rcases (show (a < s ∧ s < mid) ∨ s ≤ a ∨ (a < s ∧ mid ≤ s) by omega) with ⟨_, _⟩ | _ | ⟨_, _⟩
          · have zxasmid : (a : Int) < (s : Int) := by omega
            have zyasmid : (s : Int) < (mid : Int) := by omega
            rcases (show (mid < e ∧ e < b) ∨ e ≤ mid ∨ (mid < e ∧ b ≤ e) by omega) with ⟨_, _⟩ | _ | ⟨_, _⟩
            · have zxmideb : (mid : Int) < (e : Int) := by omega
              have zymideb : (e : Int) < (b : Int) := by omega
              go_wp2_with (first | (go_at_call 69; refine (CR.out s e wr S1.out (by omega) (by omega) (by omega)).mono ?_; rintro e9 w3 ⟨rfl, d1, hR, hS1⟩; have T1 := Lib.hid (TAIL.out d1 hR); have z1 : d1.size = d.size := hR.1; clear hR) | (go_at_call 58; refine (IH.out a s mid d1 w3 (by omega) (by omega) (by omega) (by omega) z1 T1.out.1 hS1).mono ?_; rintro e8 w4 ⟨rfl, d2, hM, hS2⟩; have T2 := Lib.hid (T1.out.next hM); have z2 : d2.size = d.size := hM.1.1.trans z1; clear hM) | (go_at_call 58; refine (IH.out mid e b d2 w4 (by omega) (by omega) (by omega) (by omega) z2 T2.out.1 hS2).mono ?_; rintro e7 w5 ⟨rfl, d3, hN, hS3⟩; have T3 := Lib.hid (T2.out.next hN); clear hN))
              all_goals (go_end0; exact ⟨rfl, d3, T3.out, hS3⟩)
            · have zxmideb : ¬ (mid : Int) < (e : Int) := by omega
              go_wp2_with (first | (go_at_call 69; refine (CR.out s e wr S1.out (by omega) (by omega) (by omega)).mono ?_; rintro e9 w3 ⟨rfl, d1, hR, hS1⟩; have T1 := Lib.hid (TAIL.out d1 hR); have z1 : d1.size = d.size := hR.1; clear hR) | (go_at_call 58; refine (IH.out a s mid d1 w3 (by omega) (by omega) (by omega) (by omega) z1 T1.out.1 hS1).mono ?_; rintro e8 w4 ⟨rfl, d2, hM, hS2⟩; have T2 := Lib.hid (T1.out.next hM); have z2 : d2.size = d.size := hM.1.1.trans z1; clear hM; have T3 := Lib.hid (T2.out.next (T2.out.1.triv (by omega)))))
              all_goals (go_end0; exact ⟨rfl, d2, T3.out, hS2⟩)
            · have zxmideb : (mid : Int) < (e : Int) := by omega
              have zymideb : ¬ (e : Int) < (b : Int) := by omega
              go_wp2_with (first | (go_at_call 69; refine (CR.out s e wr S1.out (by omega) (by omega) (by omega)).mono ?_; rintro e9 w3 ⟨rfl, d1, hR, hS1⟩; have T1 := Lib.hid (TAIL.out d1 hR); have z1 : d1.size = d.size := hR.1; clear hR) | (go_at_call 58; refine (IH.out a s mid d1 w3 (by omega) (by omega) (by omega) (by omega) z1 T1.out.1 hS1).mono ?_; rintro e8 w4 ⟨rfl, d2, hM, hS2⟩; have T2 := Lib.hid (T1.out.next hM); have z2 : d2.size = d.size := hM.1.1.trans z1; clear hM; have T3 := Lib.hid (T2.out.next (T2.out.1.triv (by omega)))))
              all_goals (go_end0; exact ⟨rfl, d2, T3.out, hS2⟩)
          · have zxasmid : ¬ (a : Int) < (s : Int) := by omega
            rcases (show (mid < e ∧ e < b) ∨ e ≤ mid ∨ (mid < e ∧ b ≤ e) by omega) with ⟨_, _⟩ | _ | ⟨_, _⟩
            · have zxmideb : (mid : Int) < (e : Int) := by omega
              have zymideb : (e : Int) < (b : Int) := by omega
              go_wp2_with (first | (go_at_call 69; refine (CR.out s e wr S1.out (by omega) (by omega) (by omega)).mono ?_; rintro e9 w3 ⟨rfl, d1, hR, hS1⟩; have T1 := Lib.hid (TAIL.out d1 hR); have z1 : d1.size = d.size := hR.1; clear hR; have T2 := Lib.hid (T1.out.next (T1.out.1.triv (by omega)))) | (go_at_call 58; refine (IH.out mid e b d1 w3 (by omega) (by omega) (by omega) (by omega) z1 T2.out.1 hS1).mono ?_; rintro e7 w5 ⟨rfl, d3, hN, hS3⟩; have T3 := Lib.hid (T2.out.next hN); clear hN))
              all_goals (go_end0; exact ⟨rfl, d3, T3.out, hS3⟩)
            · have zxmideb : ¬ (mid : Int) < (e : Int) := by omega
              go_wp2_with (first | (go_at_call 69; refine (CR.out s e wr S1.out (by omega) (by omega) (by omega)).mono ?_; rintro e9 w3 ⟨rfl, d1, hR, hS1⟩; have T1 := Lib.hid (TAIL.out d1 hR); have z1 : d1.size = d.size := hR.1; clear hR; have T2 := Lib.hid (T1.out.next (T1.out.1.triv (by omega))); have T3 := Lib.hid (T2.out.next (T2.out.1.triv (by omega)))))
              all_goals (go_end0; exact ⟨rfl, d1, T3.out, hS1⟩)
            · have zxmideb : (mid : Int) < (e : Int) := by omega
              have zymideb : ¬ (e : Int) < (b : Int) := by omega
              go_wp2_with (first | (go_at_call 69; refine (CR.out s e wr S1.out (by omega) (by omega) (by omega)).mono ?_; rintro e9 w3 ⟨rfl, d1, hR, hS1⟩; have T1 := Lib.hid (TAIL.out d1 hR); have z1 : d1.size = d.size := hR.1; clear hR; have T2 := Lib.hid (T1.out.next (T1.out.1.triv (by omega))); have T3 := Lib.hid (T2.out.next (T2.out.1.triv (by omega)))))
              all_goals (go_end0; exact ⟨rfl, d1, T3.out, hS1⟩)
          · have zxasmid : (a : Int) < (s : Int) := by omega
            have zyasmid : ¬ (s : Int) < (mid : Int) := by omega
            rcases (show (mid < e ∧ e < b) ∨ e ≤ mid ∨ (mid < e ∧ b ≤ e) by omega) with ⟨_, _⟩ | _ | ⟨_, _⟩
            · have zxmideb : (mid : Int) < (e : Int) := by omega
              have zymideb : (e : Int) < (b : Int) := by omega
              go_wp2_with (first | (go_at_call 69; refine (CR.out s e wr S1.out (by omega) (by omega) (by omega)).mono ?_; rintro e9 w3 ⟨rfl, d1, hR, hS1⟩; have T1 := Lib.hid (TAIL.out d1 hR); have z1 : d1.size = d.size := hR.1; clear hR; have T2 := Lib.hid (T1.out.next (T1.out.1.triv (by omega)))) | (go_at_call 58; refine (IH.out mid e b d1 w3 (by omega) (by omega) (by omega) (by omega) z1 T2.out.1 hS1).mono ?_; rintro e7 w5 ⟨rfl, d3, hN, hS3⟩; have T3 := Lib.hid (T2.out.next hN); clear hN))
              all_goals (go_end0; exact ⟨rfl, d3, T3.out, hS3⟩)
            · have zxmideb : ¬ (mid : Int) < (e : Int) := by omega
              go_wp2_with (first | (go_at_call 69; refine (CR.out s e wr S1.out (by omega) (by omega) (by omega)).mono ?_; rintro e9 w3 ⟨rfl, d1, hR, hS1⟩; have T1 := Lib.hid (TAIL.out d1 hR); have z1 : d1.size = d.size := hR.1; clear hR; have T2 := Lib.hid (T1.out.next (T1.out.1.triv (by omega))); have T3 := Lib.hid (T2.out.next (T2.out.1.triv (by omega)))))
              all_goals (go_end0; exact ⟨rfl, d1, T3.out, hS1⟩)
            · have zxmideb : (mid : Int) < (e : Int) := by omega
              have zymideb : ¬ (e : Int) < (b : Int) := by omega
              go_wp2_with (first | (go_at_call 69; refine (CR.out s e wr S1.out (by omega) (by omega) (by omega)).mono ?_; rintro e9 w3 ⟨rfl, d1, hR, hS1⟩; have T1 := Lib.hid (TAIL.out d1 hR); have z1 : d1.size = d.size := hR.1; clear hR; have T2 := Lib.hid (T1.out.next (T1.out.1.triv (by omega))); have T3 := Lib.hid (T2.out.next (T2.out.1.triv (by omega)))))
              all_goals (go_end0; exact ⟨rfl, d1, T3.out, hS1⟩)
        · have zxsme : ¬ (s : Int) < (m : Int) := by omega
          rcases (show (a < s ∧ s < mid) ∨ s ≤ a ∨ (a < s ∧ mid ≤ s) by omega) with ⟨_, _⟩ | _ | ⟨_, _⟩
          · have zxasmid : (a : Int) < (s : Int) := by omega
            have zyasmid : (s : Int) < (mid : Int) := by omega
            rcases (show (mid < e ∧ e < b) ∨ e ≤ mid ∨ (mid < e ∧ b ≤ e) by omega) with ⟨_, _⟩ | _ | ⟨_, _⟩
            · have zxmideb : (mid : Int) < (e : Int) := by omega
              have zymideb : (e : Int) < (b : Int) := by omega
              have T1 := Lib.hid (TAIL.out d (by rw [show m = s by omega]; exact Rot.left d s e (by omega)))
              go_wp2_with (first | (go_at_call 58; refine (IH.out a s mid d wr (by omega) (by omega) (by omega) (by omega) rfl T1.out.1 S1.out).mono ?_; rintro e8 w4 ⟨rfl, d2, hM, hS2⟩; have T2 := Lib.hid (T1.out.next hM); have z2 : d2.size = d.size := hM.1.1.trans rfl; clear hM) | (go_at_call 58; refine (IH.out mid e b d2 w4 (by omega) (by omega) (by omega) (by omega) z2 T2.out.1 hS2).mono ?_; rintro e7 w5 ⟨rfl, d3, hN, hS3⟩; have T3 := Lib.hid (T2.out.next hN); clear hN))
              all_goals (go_end0; exact ⟨rfl, d3, T3.out, hS3⟩)
            · have zxmideb : ¬ (mid : Int) < (e : Int) := by omega
              have T1 := Lib.hid (TAIL.out d (by rw [show m = s by omega]; exact Rot.left d s e (by omega)))
              go_wp2_with (first | (go_at_call 58; refine (IH.out a s mid d wr (by omega) (by omega) (by omega) (by omega) rfl T1.out.1 S1.out).mono ?_; rintro e8 w4 ⟨rfl, d2, hM, hS2⟩; have T2 := Lib.hid (T1.out.next hM); have z2 : d2.size = d.size := hM.1.1.trans rfl; clear hM; have T3 := Lib.hid (T2.out.next (T2.out.1.triv (by omega)))))
              all_goals (go_end0; exact ⟨rfl, d2, T3.out, hS2⟩)
            · have zxmideb : (mid : Int) < (e : Int) := by omega
              have zymideb : ¬ (e : Int) < (b : Int) := by omega
              have T1 := Lib.hid (TAIL.out d (by rw [show m = s by omega]; exact Rot.left d s e (by omega)))
              go_wp2_with (first | (go_at_call 58; refine (IH.out a s mid d wr (by omega) (by omega) (by omega) (by omega) rfl T1.out.1 S1.out).mono ?_; rintro e8 w4 ⟨rfl, d2, hM, hS2⟩; have T2 := Lib.hid (T1.out.next hM); have z2 : d2.size = d.size := hM.1.1.trans rfl; clear hM; have T3 := Lib.hid (T2.out.next (T2.out.1.triv (by omega)))))
              all_goals (go_end0; exact ⟨rfl, d2, T3.out, hS2⟩)
          · have zxasmid : ¬ (a : Int) < (s : Int) := by omega
            rcases (show (mid < e ∧ e < b) ∨ e ≤ mid ∨ (mid < e ∧ b ≤ e) by omega) with ⟨_, _⟩ | _ | ⟨_, _⟩
            · have zxmideb : (mid : Int) < (e : Int) := by omega
              have zymideb : (e : Int) < (b : Int) := by omega
              have T1 := Lib.hid (TAIL.out d (by rw [show m = s by omega]; exact Rot.left d s e (by omega)))
              have T2 := Lib.hid (T1.out.next (T1.out.1.triv (by omega)))
              go_wp2_with (first | (go_at_call 58; refine (IH.out mid e b d wr (by omega) (by omega) (by omega) (by omega) rfl T2.out.1 S1.out).mono ?_; rintro e7 w5 ⟨rfl, d3, hN, hS3⟩; have T3 := Lib.hid (T2.out.next hN); clear hN))
              all_goals (go_end0; exact ⟨rfl, d3, T3.out, hS3⟩)
            · have zxmideb : ¬ (mid : Int) < (e : Int) := by omega
              have T1 := Lib.hid (TAIL.out d (by rw [show m = s by omega]; exact Rot.left d s e (by omega)))
              have T2 := Lib.hid (T1.out.next (T1.out.1.triv (by omega)))
              have T3 := Lib.hid (T2.out.next (T2.out.1.triv (by omega)))
              go_wp2
              all_goals (go_end0; exact ⟨rfl, d, T3.out, S1.out⟩)
            · have zxmideb : (mid : Int) < (e : Int) := by omega
              have zymideb : ¬ (e : Int) < (b : Int) := by omega
              have T1 := Lib.hid (TAIL.out d (by rw [show m = s by omega]; exact Rot.left d s e (by omega)))
              have T2 := Lib.hid (T1.out.next (T1.out.1.triv (by omega)))
              have T3 := Lib.hid (T2.out.next (T2.out.1.triv (by omega)))
              go_wp2
              all_goals (go_end0; exact ⟨rfl, d, T3.out, S1.out⟩)
          · have zxasmid : (a : Int) < (s : Int) := by omega
            have zyasmid : ¬ (s : Int) < (mid : Int) := by omega
            rcases (show (mid < e ∧ e < b) ∨ e ≤ mid ∨ (mid < e ∧ b ≤ e) by omega) with ⟨_, _⟩ | _ | ⟨_, _⟩
            · have zxmideb : (mid : Int) < (e : Int) := by omega
              have zymideb : (e : Int) < (b : Int) := by omega
              have T1 := Lib.hid (TAIL.out d (by rw [show m = s by omega]; exact Rot.left d s e (by omega)))
              have T2 := Lib.hid (T1.out.next (T1.out.1.triv (by omega)))
              go_wp2_with (first | (go_at_call 58; refine (IH.out mid e b d wr (by omega) (by omega) (by omega) (by omega) rfl T2.out.1 S1.out).mono ?_; rintro e7 w5 ⟨rfl, d3, hN, hS3⟩; have T3 := Lib.hid (T2.out.next hN); clear hN))
              all_goals (go_end0; exact ⟨rfl, d3, T3.out, hS3⟩)
            · have zxmideb : ¬ (mid : Int) < (e : Int) := by omega
              have T1 := Lib.hid (TAIL.out d (by rw [show m = s by omega]; exact Rot.left d s e (by omega)))
              have T2 := Lib.hid (T1.out.next (T1.out.1.triv (by omega)))
              have T3 := Lib.hid (T2.out.next (T2.out.1.triv (by omega)))
              go_wp2
              all_goals (go_end0; exact ⟨rfl, d, T3.out, S1.out⟩)
            · have zxmideb : (mid : Int) < (e : Int) := by omega
              have zymideb : ¬ (e : Int) < (b : Int) := by omega
              have T1 := Lib.hid (TAIL.out d (by rw [show m = s by omega]; exact Rot.left d s e (by omega)))
              have T2 := Lib.hid (T1.out.next (T1.out.1.triv (by omega)))
              have T3 := Lib.hid (T2.out.next (T2.out.1.triv (by omega)))
              go_wp2
              all_goals (go_end0; exact ⟨rfl, d, T3.out, S1.out⟩)
        · have zxsme : (s : Int) < (m : Int) := by omega
          have zysme : ¬ (m : Int) < (e : Int) := by omega
          rcases (show (a < s ∧ s < mid) ∨ s ≤ a ∨ (a < s ∧ mid ≤ s) by omega) with ⟨_, _⟩ | _ | ⟨_, _⟩
          · have zxasmid : (a : Int) < (s : Int) := by omega
            have zyasmid : (s : Int) < (mid : Int) := by omega
            rcases (show (mid < e ∧ e < b) ∨ e ≤ mid ∨ (mid < e ∧ b ≤ e) by omega) with ⟨_, _⟩ | _ | ⟨_, _⟩
            · have zxmideb : (mid : Int) < (e : Int) := by omega
              have zymideb : (e : Int) < (b : Int) := by omega
              have T1 := Lib.hid (TAIL.out d (by rw [show e = m by omega]; exact Rot.right d s m))
              go_wp2_with (first | (go_at_call 58; refine (IH.out a s mid d wr (by omega) (by omega) (by omega) (by omega) rfl T1.out.1 S1.out).mono ?_; rintro e8 w4 ⟨rfl, d2, hM, hS2⟩; have T2 := Lib.hid (T1.out.next hM); have z2 : d2.size = d.size := hM.1.1.trans rfl; clear hM) | (go_at_call 58; refine (IH.out mid e b d2 w4 (by omega) (by omega) (by omega) (by omega) z2 T2.out.1 hS2).mono ?_; rintro e7 w5 ⟨rfl, d3, hN, hS3⟩; have T3 := Lib.hid (T2.out.next hN); clear hN))
              all_goals (go_end0; exact ⟨rfl, d3, T3.out, hS3⟩)
            · have zxmideb : ¬ (mid : Int) < (e : Int) := by omega
              have T1 := Lib.hid (TAIL.out d (by rw [show e = m by omega]; exact Rot.right d s m))
              go_wp2_with (first | (go_at_call 58; refine (IH.out a s mid d wr (by omega) (by omega) (by omega) (by omega) rfl T1.out.1 S1.out).mono ?_; rintro e8 w4 ⟨rfl, d2, hM, hS2⟩; have T2 := Lib.hid (T1.out.next hM); have z2 : d2.size = d.size := hM.1.1.trans rfl; clear hM; have T3 := Lib.hid (T2.out.next (T2.out.1.triv (by omega)))))
              all_goals (go_end0; exact ⟨rfl, d2, T3.out, hS2⟩)
            · have zxmideb : (mid : Int) < (e : Int) := by omega
              have zymideb : ¬ (e : Int) < (b : Int) := by omega
              have T1 := Lib.hid (TAIL.out d (by rw [show e = m by omega]; exact Rot.right d s m))
              go_wp2_with (first | (go_at_call 58; refine (IH.out a s mid d wr (by omega) (by omega) (by omega) (by omega) rfl T1.out.1 S1.out).mono ?_; rintro e8 w4 ⟨rfl, d2, hM, hS2⟩; have T2 := Lib.hid (T1.out.next hM); have z2 : d2.size = d.size := hM.1.1.trans rfl; clear hM; have T3 := Lib.hid (T2.out.next (T2.out.1.triv (by omega)))))
              all_goals (go_end0; exact ⟨rfl, d2, T3.out, hS2⟩)
          · have zxasmid : ¬ (a : Int) < (s : Int) := by omega
            rcases (show (mid < e ∧ e < b) ∨ e ≤ mid ∨ (mid < e ∧ b ≤ e) by omega) with ⟨_, _⟩ | _ | ⟨_, _⟩
            · have zxmideb : (mid : Int) < (e : Int) := by omega
              have zymideb : (e : Int) < (b : Int) := by omega
              have T1 := Lib.hid (TAIL.out d (by rw [show e = m by omega]; exact Rot.right d s m))
              have T2 := Lib.hid (T1.out.next (T1.out.1.triv (by omega)))
              go_wp2_with (first | (go_at_call 58; refine (IH.out mid e b d wr (by omega) (by omega) (by omega) (by omega) rfl T2.out.1 S1.out).mono ?_; rintro e7 w5 ⟨rfl, d3, hN, hS3⟩; have T3 := Lib.hid (T2.out.next hN); clear hN))
              all_goals (go_end0; exact ⟨rfl, d3, T3.out, hS3⟩)
            · have zxmideb : ¬ (mid : Int) < (e : Int) := by omega
              have T1 := Lib.hid (TAIL.out d (by rw [show e = m by omega]; exact Rot.right d s m))
              have T2 := Lib.hid (T1.out.next (T1.out.1.triv (by omega)))
              have T3 := Lib.hid (T2.out.next (T2.out.1.triv (by omega)))
              go_wp2
              all_goals (go_end0; exact ⟨rfl, d, T3.out, S1.out⟩)
            · have zxmideb : (mid : Int) < (e : Int) := by omega
              have zymideb : ¬ (e : Int) < (b : Int) := by omega
              have T1 := Lib.hid (TAIL.out d (by rw [show e = m by omega]; exact Rot.right d s m))
              have T2 := Lib.hid (T1.out.next (T1.out.1.triv (by omega)))
              have T3 := Lib.hid (T2.out.next (T2.out.1.triv (by omega)))
              go_wp2
              all_goals (go_end0; exact ⟨rfl, d, T3.out, S1.out⟩)
          · have zxasmid : (a : Int) < (s : Int) := by omega
            have zyasmid : ¬ (s : Int) < (mid : Int) := by omega
            rcases (show (mid < e ∧ e < b) ∨ e ≤ mid ∨ (mid < e ∧ b ≤ e) by omega) with ⟨_, _⟩ | _ | ⟨_, _⟩
            · have zxmideb : (mid : Int) < (e : Int) := by omega
              have zymideb : (e : Int) < (b : Int) := by omega
              have T1 := Lib.hid (TAIL.out d (by rw [show e = m by omega]; exact Rot.right d s m))
              have T2 := Lib.hid (T1.out.next (T1.out.1.triv (by omega)))
              go_wp2_with (first | (go_at_call 58; refine (IH.out mid e b d wr (by omega) (by omega) (by omega) (by omega) rfl T2.out.1 S1.out).mono ?_; rintro e7 w5 ⟨rfl, d3, hN, hS3⟩; have T3 := Lib.hid (T2.out.next hN); clear hN))
              all_goals (go_end0; exact ⟨rfl, d3, T3.out, hS3⟩)
            · have zxmideb : ¬ (mid : Int) < (e : Int) := by omega
              have T1 := Lib.hid (TAIL.out d (by rw [show e = m by omega]; exact Rot.right d s m))
              have T2 := Lib.hid (T1.out.next (T1.out.1.triv (by omega)))
              have T3 := Lib.hid (T2.out.next (T2.out.1.triv (by omega)))
              go_wp2
              all_goals (go_end0; exact ⟨rfl, d, T3.out, S1.out⟩)
            · have zxmideb : (mid : Int) < (e : Int) := by omega
              have zymideb : ¬ (e : Int) < (b : Int) := by omega
              have T1 := Lib.hid (TAIL.out d (by rw [show e = m by omega]; exact Rot.right d s m))
              have T2 := Lib.hid (T1.out.next (T1.out.1.triv (by omega)))
              have T3 := Lib.hid (T2.out.next (T2.out.1.triv (by omega)))
              go_wp2
              all_goals (go_end0; exact ⟨rfl, d, T3.out, S1.out⟩)
  · have cz : ¬ ((a : Int) + (b : Int)) / 2 < (m : Int) := by omega
    go_enter FG, Tryd.ntmps58
    go_wp2
    simp only [Q4.out, q5, q6]
    clear cz
    go_loopg [20, 21] (m - a) (fun kx s20 s21 wr => ∃ (s r : Nat), s20 = .int .i64 s ∧ s21 = .int .i64 r ∧ a ≤ s ∧ s ≤ r ∧ r ≤ m ∧ r - s ≤ kx ∧ Hid (s = a ∨ ¬ cfT d[n - s]! d[s - 1]! < 0) ∧ Hid (r = m ∨ cfT d[n - r - 1]! d[r]! < 0) ∧ Aside (SWK encT k w0 blk 0 d wr))
    case atStart => exact ⟨a, m, by go_num, by go_num, Nat.le_refl _, by omega, Nat.le_refl _, Nat.le_refl _, Lib.hid (Or.inl rfl), Lib.hid (Or.inl rfl), S0⟩
    case round =>
      clear S0
      obtain ⟨s, r, rfl, rfl, hsl, hsr, hrl, hkx, LO, UP, S1⟩ := hrel
      by_cases hlt : s < r
      · clear TAIL IH CR
        obtain ⟨h, hh⟩ : ∃ h, h = (s + r) / 2 := ⟨_, rfl⟩
        have QH : Hid (((s : Int) + (r : Int)) / 2 = (h : Int)) := Lib.hid (by omega)
        have hb1 : 2 * h ≤ s + r := by omega
        have hb2 : s + r ≤ 2 * h + 1 := by omega
        clear hh
        by_cases hcf : cfT d[p - h]! d[h]! < 0
        · replace UP : Hid (h = m ∨ cfT d[n - h - 1]! d[h]! < 0) := Lib.hid (Or.inr (by rw [show n - h - 1 = p - h by omega]; exact hcf))
          have ea : ((p : Int) - (h : Int)).toNat = p - h := by omega
          have pa : (0 : Int) ≤ (p : Int) - (h : Int) := by omega
          have ba : (p : Int) - (h : Int) < (d.size : Int) := by omega
          have ra : IntKind.i64.wrap ((p : Int) - (h : Int)) = (p : Int) - (h : Int) := by rw [IntKind.wrap_i64]; omega
          have ec : ((h : Int)).toNat = h := by omega
          have pc : (0 : Int) ≤ (h : Int) := by omega
          have bc : (h : Int) < (d.size : Int) := by omega
          have rc : IntKind.i64.wrap ((h : Int)) = (h : Int) := by rw [IntKind.wrap_i64]; omega
          obtain ⟨x0, hx0⟩ : ∃ x, x = d[p - h]! := ⟨_, rfl⟩
          obtain ⟨y0, hy0⟩ : ∃ x, x = d[h]! := ⟨_, rfl⟩
          have la := S1.out.ld R0.out (by omega) P (p - h) (by omega)
          have lb := S1.out.ld R0.out (by omega) P (h) (by omega)
          rw [← hx0] at la
          rw [← hy0] at lb
          simp only [Nat.zero_add] at la lb
          have hc := S1.out.cmp HC.out (by omega) x0 y0
          have hv : cfT x0 y0 < 0 := by rw [hx0, hy0]; exact hcf
          have hd : decide (cfT x0 y0 < 0) = true := decide_eq_true hv
          clear hx0 hy0
          have p2 : (h : Int) ≤ (p : Int) := by omega
          have p3 : h ≤ p := by omega
          have p4 : (p : Int) < (d.size : Int) + (h : Int) := by omega
          have p5 : p - h < d.size := by omega
          go_wp2_with fail
          simp only [QH.out]
          go_quiet_grown (first | (go_at_fn g; refine Calls.grown_of (hc _ _)))
          have S2 : Aside (SWK encT k w0 blk 0 d (Sort.grow (wr.drewN nq) osq)) := S1.out.grown nq osq
          clear la lb hc S1 hv hd
          generalize Sort.grow (wr.drewN nq) osq = w2 at S2 ⊢
          clear nq osq
          go_wp2
          go_roundg (h - s)
          case measure => omega
          case rel => exact ⟨s, h, rfl, by go_num, hsl, by omega, by omega, Nat.le_refl _, LO, UP, S2⟩
        · replace LO : Hid (h + 1 = a ∨ ¬ cfT d[n - (h + 1)]! d[h + 1 - 1]! < 0) := Lib.hid (Or.inr (by rw [Nat.add_sub_cancel, show n - (h + 1) = p - h by omega]; exact hcf))
          have ea : ((p : Int) - (h : Int)).toNat = p - h := by omega
          have pa : (0 : Int) ≤ (p : Int) - (h : Int) := by omega
          have ba : (p : Int) - (h : Int) < (d.size : Int) := by omega
          have ra : IntKind.i64.wrap ((p : Int) - (h : Int)) = (p : Int) - (h : Int) := by rw [IntKind.wrap_i64]; omega
          have ec : ((h : Int)).toNat = h := by omega
          have pc : (0 : Int) ≤ (h : Int) := by omega
          have bc : (h : Int) < (d.size : Int) := by omega
          have rc : IntKind.i64.wrap ((h : Int)) = (h : Int) := by rw [IntKind.wrap_i64]; omega
          obtain ⟨x0, hx0⟩ : ∃ x, x = d[p - h]! := ⟨_, rfl⟩
          obtain ⟨y0, hy0⟩ : ∃ x, x = d[h]! := ⟨_, rfl⟩
          have la := S1.out.ld R0.out (by omega) P (p - h) (by omega)
          have lb := S1.out.ld R0.out (by omega) P (h) (by omega)
          rw [← hx0] at la
          rw [← hy0] at lb
          simp only [Nat.zero_add] at la lb
          have hc := S1.out.cmp HC.out (by omega) x0 y0
          have hv : ¬ cfT x0 y0 < 0 := by rw [hx0, hy0]; exact hcf
          have hd : decide (cfT x0 y0 < 0) = false := decide_eq_false hv
          clear hx0 hy0
          have p2 : (h : Int) ≤ (p : Int) := by omega
          have p3 : h ≤ p := by omega
          have p4 : (p : Int) < (d.size : Int) + (h : Int) := by omega
          have p5 : p - h < d.size := by omega
          go_wp2_with fail
          simp only [QH.out]
          go_quiet_grown (first | (go_at_fn g; refine Calls.grown_of (hc _ _)))
          have S2 : Aside (SWK encT k w0 blk 0 d (Sort.grow (wr.drewN nq) osq)) := S1.out.grown nq osq
          clear la lb hc S1 hv hd
          generalize Sort.grow (wr.drewN nq) osq = w2 at S2 ⊢
          clear nq osq
          go_wp2
          go_roundg (r - (h + 1))
          case measure => omega
          case rel => exact ⟨h + 1, r, by go_num, rfl, by omega, by omega, hrl, Nat.le_refl _, LO, UP, S2⟩
      · obtain rfl : s = r := by omega
        obtain ⟨e, he⟩ : ∃ e, e = n - s := ⟨_, rfl⟩
        have q8 : (n : Int) - (s : Int) = (e : Int) := by omega
        have HE : Hid (e = n - s) := Lib.hid he
        have ee1 : e + s ≤ n := by omega
        have ee2 : n ≤ e + s := by omega
        clear he
        replace TAIL : Hid (∀ d1, Rot d d1 s m e → CutP a s mid e b d d1) := Lib.hid (fun d1 hr => by
          have lo := LO.out; have up := UP.out; have tl := TAIL.out s a m d1
          rw [← HN.out, ← HE.out] at tl; rw [← HE.out] at lo up
          exact tl (fun h => absurd h cc) (fun _ => ⟨rfl, rfl⟩) hsl hrl (lo.imp id Int.not_lt.1) up hr)
        clear LO UP
        rcases (show (s < m ∧ m < e) ∨ m ≤ s ∨ (s < m ∧ e ≤ m) by omega) with ⟨_, _⟩ | _ | ⟨_, _⟩
        · have zxsme : (s : Int) < (m : Int) := by omega
          have zysme : (m : Int) < (e : Int) := by omega
          rcases (show (a < s ∧ s < mid) ∨ s ≤ a ∨ (a < s ∧ mid ≤ s) by omega) with ⟨_, _⟩ | _ | ⟨_, _⟩
          · have zxasmid : (a : Int) < (s : Int) := by omega
            have zyasmid : (s : Int) < (mid : Int) := by omega
            rcases (show (mid < e ∧ e < b) ∨ e ≤ mid ∨ (mid < e ∧ b ≤ e) by omega) with ⟨_, _⟩ | _ | ⟨_, _⟩
            · have zxmideb : (mid : Int) < (e : Int) := by omega
              have zymideb : (e : Int) < (b : Int) := by omega
              go_wp2_with (first | (go_at_call 69; refine (CR.out s e wr S1.out (by omega) (by omega) (by omega)).mono ?_; rintro e9 w3 ⟨rfl, d1, hR, hS1⟩; have T1 := Lib.hid (TAIL.out d1 hR); have z1 : d1.size = d.size := hR.1; clear hR) | (go_at_call 58; refine (IH.out a s mid d1 w3 (by omega) (by omega) (by omega) (by omega) z1 T1.out.1 hS1).mono ?_; rintro e8 w4 ⟨rfl, d2, hM, hS2⟩; have T2 := Lib.hid (T1.out.next hM); have z2 : d2.size = d.size := hM.1.1.trans z1; clear hM) | (go_at_call 58; refine (IH.out mid e b d2 w4 (by omega) (by omega) (by omega) (by omega) z2 T2.out.1 hS2).mono ?_; rintro e7 w5 ⟨rfl, d3, hN, hS3⟩; have T3 := Lib.hid (T2.out.next hN); clear hN))
              all_goals (go_end0; exact ⟨rfl, d3, T3.out, hS3⟩)
            · have zxmideb : ¬ (mid : Int) < (e : Int) := by omega
              go_wp2_with (first | (go_at_call 69; refine (CR.out s e wr S1.out (by omega) (by omega) (by omega)).mono ?_; rintro e9 w3 ⟨rfl, d1, hR, hS1⟩; have T1 := Lib.hid (TAIL.out d1 hR); have z1 : d1.size = d.size := hR.1; clear hR) | (go_at_call 58; refine (IH.out a s mid d1 w3 (by omega) (by omega) (by omega) (by omega) z1 T1.out.1 hS1).mono ?_; rintro e8 w4 ⟨rfl, d2, hM, hS2⟩; have T2 := Lib.hid (T1.out.next hM); have z2 : d2.size = d.size := hM.1.1.trans z1; clear hM; have T3 := Lib.hid (T2.out.next (T2.out.1.triv (by omega)))))
              all_goals (go_end0; exact ⟨rfl, d2, T3.out, hS2⟩)
            · have zxmideb : (mid : Int) < (e : Int) := by omega
              have zymideb : ¬ (e : Int) < (b : Int) := by omega
              go_wp2_with (first | (go_at_call 69; refine (CR.out s e wr S1.out (by omega) (by omega) (by omega)).mono ?_; rintro e9 w3 ⟨rfl, d1, hR, hS1⟩; have T1 := Lib.hid (TAIL.out d1 hR); have z1 : d1.size = d.size := hR.1; clear hR) | (go_at_call 58; refine (IH.out a s mid d1 w3 (by omega) (by omega) (by omega) (by omega) z1 T1.out.1 hS1).mono ?_; rintro e8 w4 ⟨rfl, d2, hM, hS2⟩; have T2 := Lib.hid (T1.out.next hM); have z2 : d2.size = d.size := hM.1.1.trans z1; clear hM; have T3 := Lib.hid (T2.out.next (T2.out.1.triv (by omega)))))
              all_goals (go_end0; exact ⟨rfl, d2, T3.out, hS2⟩)
          · have zxasmid : ¬ (a : Int) < (s : Int) := by omega
            rcases (show (mid < e ∧ e < b) ∨ e ≤ mid ∨ (mid < e ∧ b ≤ e) by omega) with ⟨_, _⟩ | _ | ⟨_, _⟩
            · have zxmideb : (mid : Int) < (e : Int) := by omega
              have zymideb : (e : Int) < (b : Int) := by omega
              go_wp2_with (first | (go_at_call 69; refine (CR.out s e wr S1.out (by omega) (by omega) (by omega)).mono ?_; rintro e9 w3 ⟨rfl, d1, hR, hS1⟩; have T1 := Lib.hid (TAIL.out d1 hR); have z1 : d1.size = d.size := hR.1; clear hR; have T2 := Lib.hid (T1.out.next (T1.out.1.triv (by omega)))) | (go_at_call 58; refine (IH.out mid e b d1 w3 (by omega) (by omega) (by omega) (by omega) z1 T2.out.1 hS1).mono ?_; rintro e7 w5 ⟨rfl, d3, hN, hS3⟩; have T3 := Lib.hid (T2.out.next hN); clear hN))
              all_goals (go_end0; exact ⟨rfl, d3, T3.out, hS3⟩)
            · have zxmideb : ¬ (mid : Int) < (e : Int) := by omega
              go_wp2_with (first | (go_at_call 69; refine (CR.out s e wr S1.out (by omega) (by omega) (by omega)).mono ?_; rintro e9 w3 ⟨rfl, d1, hR, hS1⟩; have T1 := Lib.hid (TAIL.out d1 hR); have z1 : d1.size = d.size := hR.1; clear hR; have T2 := Lib.hid (T1.out.next (T1.out.1.triv (by omega))); have T3 := Lib.hid (T2.out.next (T2.out.1.triv (by omega)))))
              all_goals (go_end0; exact ⟨rfl, d1, T3.out, hS1⟩)
            · have zxmideb : (mid : Int) < (e : Int) := by omega
              have zymideb : ¬ (e : Int) < (b : Int) := by omega
              go_wp2_with (first | (go_at_call 69; refine (CR.out s e wr S1.out (by omega) (by omega) (by omega)).mono ?_; rintro e9 w3 ⟨rfl, d1, hR, hS1⟩; have T1 := Lib.hid (TAIL.out d1 hR); have z1 : d1.size = d.size := hR.1; clear hR; have T2 := Lib.hid (T1.out.next (T1.out.1.triv (by omega))); have T3 := Lib.hid (T2.out.next (T2.out.1.triv (by omega)))))
              all_goals (go_end0; exact ⟨rfl, d1, T3.out, hS1⟩)
          · have zxasmid : (a : Int) < (s : Int) := by omega
            have zyasmid : ¬ (s : Int) < (mid : Int) := by omega
            rcases (show (mid < e ∧ e < b) ∨ e ≤ mid ∨ (mid < e ∧ b ≤ e) by omega) with ⟨_, _⟩ | _ | ⟨_, _⟩
            · have zxmideb : (mid : Int) < (e : Int) := by omega
              have zymideb : (e : Int) < (b : Int) := by omega
              go_wp2_with (first | (go_at_call 69; refine (CR.out s e wr S1.out (by omega) (by omega) (by omega)).mono ?_; rintro e9 w3 ⟨rfl, d1, hR, hS1⟩; have T1 := Lib.hid (TAIL.out d1 hR); have z1 : d1.size = d.size := hR.1; clear hR; have T2 := Lib.hid (T1.out.next (T1.out.1.triv (by omega)))) | (go_at_call 58; refine (IH.out mid e b d1 w3 (by omega) (by omega) (by omega) (by omega) z1 T2.out.1 hS1).mono ?_; rintro e7 w5 ⟨rfl, d3, hN, hS3⟩; have T3 := Lib.hid (T2.out.next hN); clear hN))
              all_goals (go_end0; exact ⟨rfl, d3, T3.out, hS3⟩)
            · have zxmideb : ¬ (mid : Int) < (e : Int) := by omega
              go_wp2_with (first | (go_at_call 69; refine (CR.out s e wr S1.out (by omega) (by omega) (by omega)).mono ?_; rintro e9 w3 ⟨rfl, d1, hR, hS1⟩; have T1 := Lib.hid (TAIL.out d1 hR); have z1 : d1.size = d.size := hR.1; clear hR; have T2 := Lib.hid (T1.out.next (T1.out.1.triv (by omega))); have T3 := Lib.hid (T2.out.next (T2.out.1.triv (by omega)))))
              all_goals (go_end0; exact ⟨rfl, d1, T3.out, hS1⟩)
            · have zxmideb : (mid : Int) < (e : Int) := by omega
              have zymideb : ¬ (e : Int) < (b : Int) := by omega
              go_wp2_with (first | (go_at_call 69; refine (CR.out s e wr S1.out (by omega) (by omega) (by omega)).mono ?_; rintro e9 w3 ⟨rfl, d1, hR, hS1⟩; have T1 := Lib.hid (TAIL.out d1 hR); have z1 : d1.size = d.size := hR.1; clear hR; have T2 := Lib.hid (T1.out.next (T1.out.1.triv (by omega))); have T3 := Lib.hid (T2.out.next (T2.out.1.triv (by omega)))))
              all_goals (go_end0; exact ⟨rfl, d1, T3.out, hS1⟩)
        · have zxsme : ¬ (s : Int) < (m : Int) := by omega
          rcases (show (a < s ∧ s < mid) ∨ s ≤ a ∨ (a < s ∧ mid ≤ s) by omega) with ⟨_, _⟩ | _ | ⟨_, _⟩
          · have zxasmid : (a : Int) < (s : Int) := by omega
            have zyasmid : (s : Int) < (mid : Int) := by omega
            rcases (show (mid < e ∧ e < b) ∨ e ≤ mid ∨ (mid < e ∧ b ≤ e) by omega) with ⟨_, _⟩ | _ | ⟨_, _⟩
            · have zxmideb : (mid : Int) < (e : Int) := by omega
              have zymideb : (e : Int) < (b : Int) := by omega
              have T1 := Lib.hid (TAIL.out d (by rw [show m = s by omega]; exact Rot.left d s e (by omega)))
              go_wp2_with (first | (go_at_call 58; refine (IH.out a s mid d wr (by omega) (by omega) (by omega) (by omega) rfl T1.out.1 S1.out).mono ?_; rintro e8 w4 ⟨rfl, d2, hM, hS2⟩; have T2 := Lib.hid (T1.out.next hM); have z2 : d2.size = d.size := hM.1.1.trans rfl; clear hM) | (go_at_call 58; refine (IH.out mid e b d2 w4 (by omega) (by omega) (by omega) (by omega) z2 T2.out.1 hS2).mono ?_; rintro e7 w5 ⟨rfl, d3, hN, hS3⟩; have T3 := Lib.hid (T2.out.next hN); clear hN))
              all_goals (go_end0; exact ⟨rfl, d3, T3.out, hS3⟩)
            · have zxmideb : ¬ (mid : Int) < (e : Int) := by omega
              have T1 := Lib.hid (TAIL.out d (by rw [show m = s by omega]; exact Rot.left d s e (by omega)))
              go_wp2_with (first | (go_at_call 58; refine (IH.out a s mid d wr (by omega) (by omega) (by omega) (by omega) rfl T1.out.1 S1.out).mono ?_; rintro e8 w4 ⟨rfl, d2, hM, hS2⟩; have T2 := Lib.hid (T1.out.next hM); have z2 : d2.size = d.size := hM.1.1.trans rfl; clear hM; have T3 := Lib.hid (T2.out.next (T2.out.1.triv (by omega)))))
              all_goals (go_end0; exact ⟨rfl, d2, T3.out, hS2⟩)
            · have zxmideb : (mid : Int) < (e : Int) := by omega
              have zymideb : ¬ (e : Int) < (b : Int) := by omega
              have T1 := Lib.hid (TAIL.out d (by rw [show m = s by omega]; exact Rot.left d s e (by omega)))
              go_wp2_with (first | (go_at_call 58; refine (IH.out a s mid d wr (by omega) (by omega) (by omega) (by omega) rfl T1.out.1 S1.out).mono ?_; rintro e8 w4 ⟨rfl, d2, hM, hS2⟩; have T2 := Lib.hid (T1.out.next hM); have z2 : d2.size = d.size := hM.1.1.trans rfl; clear hM; have T3 := Lib.hid (T2.out.next (T2.out.1.triv (by omega)))))
              all_goals (go_end0; exact ⟨rfl, d2, T3.out, hS2⟩)
          · have zxasmid : ¬ (a : Int) < (s : Int) := by omega
            rcases (show (mid < e ∧ e < b) ∨ e ≤ mid ∨ (mid < e ∧ b ≤ e) by omega) with ⟨_, _⟩ | _ | ⟨_, _⟩
            · have zxmideb : (mid : Int) < (e : Int) := by omega
              have zymideb : (e : Int) < (b : Int) := by omega
              have T1 := Lib.hid (TAIL.out d (by rw [show m = s by omega]; exact Rot.left d s e (by omega)))
              have T2 := Lib.hid (T1.out.next (T1.out.1.triv (by omega)))
              go_wp2_with (first | (go_at_call 58; refine (IH.out mid e b d wr (by omega) (by omega) (by omega) (by omega) rfl T2.out.1 S1.out).mono ?_; rintro e7 w5 ⟨rfl, d3, hN, hS3⟩; have T3 := Lib.hid (T2.out.next hN); clear hN))
              all_goals (go_end0; exact ⟨rfl, d3, T3.out, hS3⟩)
            · have zxmideb : ¬ (mid : Int) < (e : Int) := by omega
              have T1 := Lib.hid (TAIL.out d (by rw [show m = s by omega]; exact Rot.left d s e (by omega)))
              have T2 := Lib.hid (T1.out.next (T1.out.1.triv (by omega)))
              have T3 := Lib.hid (T2.out.next (T2.out.1.triv (by omega)))
              go_wp2
              all_goals (go_end0; exact ⟨rfl, d, T3.out, S1.out⟩)
            · have zxmideb : (mid : Int) < (e : Int) := by omega
              have zymideb : ¬ (e : Int) < (b : Int) := by omega
              have T1 := Lib.hid (TAIL.out d (by rw [show m = s by omega]; exact Rot.left d s e (by omega)))
              have T2 := Lib.hid (T1.out.next (T1.out.1.triv (by omega)))
              have T3 := Lib.hid (T2.out.next (T2.out.1.triv (by omega)))
              go_wp2
              all_goals (go_end0; exact ⟨rfl, d, T3.out, S1.out⟩)
          · have zxasmid : (a : Int) < (s : Int) := by omega
            have zyasmid : ¬ (s : Int) < (mid : Int) := by omega
            rcases (show (mid < e ∧ e < b) ∨ e ≤ mid ∨ (mid < e ∧ b ≤ e) by omega) with ⟨_, _⟩ | _ | ⟨_, _⟩
            · have zxmideb : (mid : Int) < (e : Int) := by omega
              have zymideb : (e : Int) < (b : Int) := by omega
              have T1 := Lib.hid (TAIL.out d (by rw [show m = s by omega]; exact Rot.left d s e (by omega)))
              have T2 := Lib.hid (T1.out.next (T1.out.1.triv (by omega)))
              go_wp2_with (first | (go_at_call 58; refine (IH.out mid e b d wr (by omega) (by omega) (by omega) (by omega) rfl T2.out.1 S1.out).mono ?_; rintro e7 w5 ⟨rfl, d3, hN, hS3⟩; have T3 := Lib.hid (T2.out.next hN); clear hN))
              all_goals (go_end0; exact ⟨rfl, d3, T3.out, hS3⟩)
            · have zxmideb : ¬ (mid : Int) < (e : Int) := by omega
              have T1 := Lib.hid (TAIL.out d (by rw [show m = s by omega]; exact Rot.left d s e (by omega)))
              have T2 := Lib.hid (T1.out.next (T1.out.1.triv (by omega)))
              have T3 := Lib.hid (T2.out.next (T2.out.1.triv (by omega)))
              go_wp2
              all_goals (go_end0; exact ⟨rfl, d, T3.out, S1.out⟩)
            · have zxmideb : (mid : Int) < (e : Int) := by omega
              have zymideb : ¬ (e : Int) < (b : Int) := by omega
              have T1 := Lib.hid (TAIL.out d (by rw [show m = s by omega]; exact Rot.left d s e (by omega)))
              have T2 := Lib.hid (T1.out.next (T1.out.1.triv (by omega)))
              have T3 := Lib.hid (T2.out.next (T2.out.1.triv (by omega)))
              go_wp2
              all_goals (go_end0; exact ⟨rfl, d, T3.out, S1.out⟩)
        · have zxsme : (s : Int) < (m : Int) := by omega
          have zysme : ¬ (m : Int) < (e : Int) := by omega
          rcases (show (a < s ∧ s < mid) ∨ s ≤ a ∨ (a < s ∧ mid ≤ s) by omega) with ⟨_, _⟩ | _ | ⟨_, _⟩
          · have zxasmid : (a : Int) < (s : Int) := by omega
            have zyasmid : (s : Int) < (mid : Int) := by omega
            rcases (show (mid < e ∧ e < b) ∨ e ≤ mid ∨ (mid < e ∧ b ≤ e) by omega) with ⟨_, _⟩ | _ | ⟨_, _⟩
            · have zxmideb : (mid : Int) < (e : Int) := by omega
              have zymideb : (e : Int) < (b : Int) := by omega
              have T1 := Lib.hid (TAIL.out d (by rw [show e = m by omega]; exact Rot.right d s m))
              go_wp2_with (first | (go_at_call 58; refine (IH.out a s mid d wr (by omega) (by omega) (by omega) (by omega) rfl T1.out.1 S1.out).mono ?_; rintro e8 w4 ⟨rfl, d2, hM, hS2⟩; have T2 := Lib.hid (T1.out.next hM); have z2 : d2.size = d.size := hM.1.1.trans rfl; clear hM) | (go_at_call 58; refine (IH.out mid e b d2 w4 (by omega) (by omega) (by omega) (by omega) z2 T2.out.1 hS2).mono ?_; rintro e7 w5 ⟨rfl, d3, hN, hS3⟩; have T3 := Lib.hid (T2.out.next hN); clear hN))
              all_goals (go_end0; exact ⟨rfl, d3, T3.out, hS3⟩)
            · have zxmideb : ¬ (mid : Int) < (e : Int) := by omega
              have T1 := Lib.hid (TAIL.out d (by rw [show e = m by omega]; exact Rot.right d s m))
              go_wp2_with (first | (go_at_call 58; refine (IH.out a s mid d wr (by omega) (by omega) (by omega) (by omega) rfl T1.out.1 S1.out).mono ?_; rintro e8 w4 ⟨rfl, d2, hM, hS2⟩; have T2 := Lib.hid (T1.out.next hM); have z2 : d2.size = d.size := hM.1.1.trans rfl; clear hM; have T3 := Lib.hid (T2.out.next (T2.out.1.triv (by omega)))))
              all_goals (go_end0; exact ⟨rfl, d2, T3.out, hS2⟩)
            · have zxmideb : (mid : Int) < (e : Int) := by omega
              have zymideb : ¬ (e : Int) < (b : Int) := by omega
              have T1 := Lib.hid (TAIL.out d (by rw [show e = m by omega]; exact Rot.right d s m))
              go_wp2_with (first | (go_at_call 58; refine (IH.out a s mid d wr (by omega) (by omega) (by omega) (by omega) rfl T1.out.1 S1.out).mono ?_; rintro e8 w4 ⟨rfl, d2, hM, hS2⟩; have T2 := Lib.hid (T1.out.next hM); have z2 : d2.size = d.size := hM.1.1.trans rfl; clear hM; have T3 := Lib.hid (T2.out.next (T2.out.1.triv (by omega)))))
              all_goals (go_end0; exact ⟨rfl, d2, T3.out, hS2⟩)
          · have zxasmid : ¬ (a : Int) < (s : Int) := by omega
            rcases (show (mid < e ∧ e < b) ∨ e ≤ mid ∨ (mid < e ∧ b ≤ e) by omega) with ⟨_, _⟩ | _ | ⟨_, _⟩
            · have zxmideb : (mid : Int) < (e : Int) := by omega
              have zymideb : (e : Int) < (b : Int) := by omega
              have T1 := Lib.hid (TAIL.out d (by rw [show e = m by omega]; exact Rot.right d s m))
              have T2 := Lib.hid (T1.out.next (T1.out.1.triv (by omega)))
              go_wp2_with (first | (go_at_call 58; refine (IH.out mid e b d wr (by omega) (by omega) (by omega) (by omega) rfl T2.out.1 S1.out).mono ?_; rintro e7 w5 ⟨rfl, d3, hN, hS3⟩; have T3 := Lib.hid (T2.out.next hN); clear hN))
              all_goals (go_end0; exact ⟨rfl, d3, T3.out, hS3⟩)
            · have zxmideb : ¬ (mid : Int) < (e : Int) := by omega
              have T1 := Lib.hid (TAIL.out d (by rw [show e = m by omega]; exact Rot.right d s m))
              have T2 := Lib.hid (T1.out.next (T1.out.1.triv (by omega)))
              have T3 := Lib.hid (T2.out.next (T2.out.1.triv (by omega)))
              go_wp2
              all_goals (go_end0; exact ⟨rfl, d, T3.out, S1.out⟩)
            · have zxmideb : (mid : Int) < (e : Int) := by omega
              have zymideb : ¬ (e : Int) < (b : Int) := by omega
              have T1 := Lib.hid (TAIL.out d (by rw [show e = m by omega]; exact Rot.right d s m))
              have T2 := Lib.hid (T1.out.next (T1.out.1.triv (by omega)))
              have T3 := Lib.hid (T2.out.next (T2.out.1.triv (by omega)))
              go_wp2
              all_goals (go_end0; exact ⟨rfl, d, T3.out, S1.out⟩)
          · have zxasmid : (a : Int) < (s : Int) := by omega
            have zyasmid : ¬ (s : Int) < (mid : Int) := by omega
            rcases (show (mid < e ∧ e < b) ∨ e ≤ mid ∨ (mid < e ∧ b ≤ e) by omega) with ⟨_, _⟩ | _ | ⟨_, _⟩
            · have zxmideb : (mid : Int) < (e : Int) := by omega
              have zymideb : (e : Int) < (b : Int) := by omega
              have T1 := Lib.hid (TAIL.out d (by rw [show e = m by omega]; exact Rot.right d s m))
              have T2 := Lib.hid (T1.out.next (T1.out.1.triv (by omega)))
              go_wp2_with (first | (go_at_call 58; refine (IH.out mid e b d wr (by omega) (by omega) (by omega) (by omega) rfl T2.out.1 S1.out).mono ?_; rintro e7 w5 ⟨rfl, d3, hN, hS3⟩; have T3 := Lib.hid (T2.out.next hN); clear hN))
              all_goals (go_end0; exact ⟨rfl, d3, T3.out, hS3⟩)
            · have zxmideb : ¬ (mid : Int) < (e : Int) := by omega
              have T1 := Lib.hid (TAIL.out d (by rw [show e = m by omega]; exact Rot.right d s m))
              have T2 := Lib.hid (T1.out.next (T1.out.1.triv (by omega)))
              have T3 := Lib.hid (T2.out.next (T2.out.1.triv (by omega)))
              go_wp2
              all_goals (go_end0; exact ⟨rfl, d, T3.out, S1.out⟩)
            · have zxmideb : (mid : Int) < (e : Int) := by omega
              have zymideb : ¬ (e : Int) < (b : Int) := by omega
              have T1 := Lib.hid (TAIL.out d (by rw [show e = m by omega]; exact Rot.right d s m))
              have T2 := Lib.hid (T1.out.next (T1.out.1.triv (by omega)))
              have T3 := Lib.hid (T2.out.next (T2.out.1.triv (by omega)))
              go_wp2
              all_goals (go_end0; exact ⟨rfl, d, T3.out, S1.out⟩)
theorem mergeN (L : StabP P k) {blk cap g : Nat} {cb : Array Value} {d0 : Array Tg} {w0 : World} (eg : ∀ args w, (callFunc g args).run P w = .ok (.enter g args) w) (hcmp : CmpLays P g cb encT k cfT blk 0 d0.size w0) (R : RowK encT k w0 blk 0 d0) (hsz : d0.size < 1000000) :
    ∀ (N a m b : Nat) (d : Array Tg) (w : World), b - a ≤ N → d0.size = d.size → a < m → m < b → b ≤ d.size → PreM a m b d → SWK encT k w0 blk 0 d w →
    Calls P 58 #[.slice (some ⟨blk, 0, none⟩) d0.size cap, .int .i64 a, .int .i64 m, .int .i64 b, .func (.func g) #[] cb] w fun e w' => e = .returned (.tuple #[]) ∧ ∃ d', Mgd a b d d' ∧ SWK encT k w0 blk 0 d' w' := by
  intro N
  induction N with
  | zero => intro a m b d w hN hs h1 h2 h3 hP S; exact absurd hN (by omega)
  | succ N ih =>
    intro a m b d w hN hs h1 h2 h3 hP S
    by_cases e1 : m = a + 1
    · have r := mergeL (cap := cap) L eg hcmp R hs S e1 h2 hP h3 (by omega)
      rw [← hs] at r; exact r
    · by_cases e2 : b = m + 1
      · have r := mergeR (cap := cap) L eg hcmp R hs S e2 (by omega) hP h3 (by omega)
        rw [← hs] at r; exact r
      · have r := mergeG (cap := cap) L eg hcmp R hs S (by omega) (by omega) hP (fun a' m' b' d' W g1 g2 g3 g4 g5 g6 g7 => by
          have q := ih a' m' b' d' W (by omega) (hs.trans g5.symm) g2 g3 (by omega) g6 g7
          rw [hs] at q; exact q) h3 (by omega)
        rw [← hs] at r; exact r
end Go.Proofs.YtkkdclibbdeejaaDoor
