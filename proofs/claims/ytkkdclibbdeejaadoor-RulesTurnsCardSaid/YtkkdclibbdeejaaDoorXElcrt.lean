/- Package rules: slices.SortStableFunc at turns, up to 60. -/
import Derived.Test.YtkkdclibbdeejaaDoorXElcrg
import Derived.Test.YtkkdclibbdeejaaDoorXElcrb
set_option maxRecDepth 100000
set_option maxHeartbeats 64000000
namespace Go.Proofs.YtkkdclibbdeejaaDoor
open Go.Shelf Go.RowKit Go.Lib
theorem stableE {blk cap n : Nat} {d : Array Tg} {w : World} (R : RowK encT 4 w blk 0 d) (hd : d.size = n) (hn1 : 20 ≤ n) (hn2 : n ≤ 60) (hr : ∀ p q, p < q → q < n → d[p]!.2 < d[q]!.2) :
    Calls Tryd.prog 44 #[.slice (some ⟨blk, 0, none⟩) n cap, .int .i64 n, .func (.func 27) #[] #[]] w (fun e w' => e = .returned (.tuple #[]) ∧ ∃ d', Sort.PermIn 0 n d d' ∧ Sort.SortedIn lexB 0 n d' ∧ SWK encT 4 w blk 0 d' w') := by
  have IN := Lib.hid (fun (a b : Nat) (dk : Array Tg) (W : World) (hz : dk.size = d.size) (S : SWK encT 4 w blk 0 dk W) (g1 : a ≤ b) (g2 : b ≤ n) => (show dk.size = n from hz.trans hd) ▸ insE (cap := cap) (a := a) (b := b) R hz.symm S g1 (by omega) (by omega))
  have MG := Lib.hid (fun (a m b : Nat) (dk : Array Tg) (W : World) (hz : dk.size = d.size) (S : SWK encT 4 w blk 0 dk W) (g1 : a < m) (g2 : m < b) (g3 : b ≤ n) (g4 : PreM a m b dk) => hd ▸ mergeN (cap := cap) (g := 27) (cb := #[]) stabTry eg_cmp (cmpLT blk 0 d.size w) R (by omega) (b - a) a m b dk W (Nat.le_refl _) hz.symm g1 g2 (by omega) g4 S)
  have S0 : Aside (SWK encT 4 w blk 0 d w) := SWK.start R.hH
  have B0 := Lib.hid (B1.start hr)
  clear R hr
  go_enter Tryd.func44, Tryd.ntmps44
  go_wp2_with fail
  go_loopg [7, 8] 80 (fun kx s7 s8 wr => ∃ (a : Nat) (dk : Array Tg), s7 = .int .i64 a ∧ s8 = .int .i64 (a + 20 : Nat) ∧ (a = 0 ∨ a = 20 ∨ a = 40 ∨ a = 60) ∧ a ≤ n ∧ 80 - a ≤ kx ∧ Hid (B1 a n d dk) ∧ Aside (SWK encT 4 w blk 0 dk wr))
  case atStart => exact ⟨0, d, rfl, rfl, Or.inl rfl, Nat.zero_le _, by omega, B0, S0⟩
  case round =>
    clear S0 B0
    obtain ⟨a, dk, rfl, rfl, ha, han, hkx, HB, S1⟩ := hrel
    by_cases hb : a + 20 ≤ n
    · have hbz : ((a + 20 : Nat) : Int) ≤ (n : Int) := by omega
      have HB2 := Lib.hid (HB.out.step ha (Nat.le_add_right _ _) (Nat.le_refl _) hb (by omega))
      clear MG
      go_wp2_with (go_at_call 57; refine (IN.out a (a + 20) dk wr HB.out.1.1 S1.out (by omega) hb).mono ?_; clear IN; rintro e w' ⟨rfl, hS⟩)
      go_roundg (80 - (a + 20))
      case measure => omega
      case rel => exact ⟨a + 20, _, rfl, by go_num, by omega, hb, Nat.le_refl _, HB2, hS⟩
    · have hbz : ¬ ((a + 20 : Nat) : Int) ≤ (n : Int) := by omega
      have HB2 := Lib.hid (HB.out.step ha han (by omega) (Nat.le_refl _) (by omega)).full
      go_wp2_with (go_at_call 57; refine (IN.out a n dk wr HB.out.1.1 S1.out han (Nat.le_refl _)).mono ?_; clear IN; rintro e w' ⟨rfl, hS⟩)
      clear S1 HB hbz hb
      generalize Sort.insertionSort (ltOf cfT) dk a n = d1 at HB2 hS
      go_loopg [6] 80 (fun kx s6 wr => ∃ (S : Nat) (dk : Array Tg), s6 = .int .i64 S ∧ (S = 20 ∨ S = 40 ∨ S = 80) ∧ 80 - S ≤ kx ∧ Hid (Bk S n d dk) ∧ Aside (SWK encT 4 w blk 0 dk wr))
      case atStart => exact ⟨20, d1, rfl, Or.inl rfl, by omega, HB2, hS⟩
      case round =>
        clear HB2 hS
        obtain ⟨S, dk, rfl, hS, hkx, HB, S1⟩ := hrel
        by_cases hlt : S < n
        · have hz : dk.size = d.size := HB.out.1.1
          rcases hS with rfl | rfl | rfl
          · have hlz : (20 : Int) < (n : Int) := by omega
            go_wp2_with fail
            go_loopg [7, 8] 40 (fun kx s7 s8 wr => ∃ (a : Nat) (dk : Array Tg), s7 = .int .i64 a ∧ s8 = .int .i64 (a + 40 : Nat) ∧ (a = 0 ∨ a = 40) ∧ (a = 40 → 40 ≤ n) ∧ 40 - a ≤ kx ∧ Hid ((a = 0 → Bk 20 n d dk) ∧ (a = 40 → Bk 40 n d dk)) ∧ Aside (SWK encT 4 w blk 0 dk wr))
            case atStart => exact ⟨0, dk, rfl, rfl, Or.inl rfl, fun h => absurd h (by omega), by omega, Lib.hid ⟨fun _ => HB.out, fun h => absurd h (by omega)⟩, S1⟩
            case round =>
              clear S1 HB hz
              obtain ⟨a, dk, rfl, rfl, ha, h40, hkx, HB, S1⟩ := hrel
              rcases ha with rfl | rfl
              · replace HB := Lib.hid (HB.out.1 rfl)
                by_cases hb : 40 ≤ n
                · have hbz : (40 : Int) ≤ (n : Int) := by omega
                  go_wp2_with (go_at_call 58; refine (MG.out 0 20 40 dk wr HB.out.1.1 S1.out (by omega) (by omega) hb (HB.out.pre20 (by omega) hb hn1)).mono ?_; rintro e w' ⟨rfl, d2, hM, hS⟩)
                  go_roundg 0
                  case measure => omega
                  case rel => exact ⟨40, d2, rfl, rfl, Or.inr rfl, fun _ => hb, by omega, Lib.hid ⟨fun h => absurd h (by omega), fun _ => HB.out.two hb hn2 (by omega) hM⟩, hS⟩
                · have hbz : ¬ (40 : Int) ≤ (n : Int) := by omega
                  go_wp2_with (go_at_call 58; refine (MG.out 0 20 n dk wr HB.out.1.1 S1.out (by omega) hlt (Nat.le_refl _) (HB.out.pre20 (by omega) (Nat.le_refl _) hn1)).mono ?_; rintro e w' ⟨rfl, d2, hM, hS⟩)
                  go_roundg 40
                  case measure => omega
                  case rel => exact ⟨40, d2, rfl, Or.inr (Or.inl rfl), by omega, Lib.hid (HB.out.one (by omega) hM), hS⟩
              · replace HB := Lib.hid (HB.out.2 rfl)
                have hbz : ¬ (80 : Int) ≤ (n : Int) := by omega
                have hmz : ¬ (60 : Int) < (n : Int) := by omega
                go_wp2_with fail
                go_roundg 40
                case measure => omega
                case rel => exact ⟨40, dk, rfl, Or.inr (Or.inl rfl), by omega, HB, S1⟩
          · have hlz : (40 : Int) < (n : Int) := by omega
            go_wp2_with fail
            go_loopg [7, 8] 0 (fun kx s7 s8 wr' => s7 = .int .i64 0 ∧ s8 = .int .i64 80 ∧ wr' = wr)
            case atStart => exact ⟨rfl, rfl, rfl⟩
            case round =>
              obtain ⟨rfl, rfl, rfl⟩ := hrel
              have hbz : ¬ (80 : Int) ≤ (n : Int) := by omega
              go_wp2_with (go_at_call 58; refine (MG.out 0 40 n dk _ HB.out.1.1 S1.out (by omega) hlt (Nat.le_refl _) (HB.out.pre40 (by omega) (by omega))).mono ?_; rintro e w' ⟨rfl, d2, hM, hS⟩)
              go_roundg 0
              case measure => omega
              case rel => exact ⟨80, d2, rfl, Or.inr (Or.inr rfl), by omega, Lib.hid (HB.out.one (by omega) hM), hS⟩
          · exact absurd hlt (by omega)
        · have hlz : ¬ (S : Int) < (n : Int) := by omega
          have FIN := HB.out.done (by omega)
          go_wp2
          go_end0
          exact ⟨rfl, dk, FIN.1, FIN.2, S1.out⟩
theorem sort60 : SortsT 60 := by
  unfold SortsT
  intro blk cap n l w R hl hn
  by_cases c : n ≤ 19
  · exact sortSmallE blk cap n l w R hl c
  · have hd : (tagged l).size = n := (tagged_size l).trans hl
    have hr := tagged_rise l
    generalize tagged l = t at *
    have ST := stableE (cap := cap) R hd (by omega) hn (fun p q h1 h2 => hr p q (Nat.zero_le _) h1 (by rw [hd]; exact h2))
    have FIN := Lib.hid (show ∀ w', (∃ d', Sort.PermIn 0 n t d' ∧ Sort.SortedIn lexB 0 n d' ∧ SWK encT 4 w blk 0 d' w') → ∃ d, Sort.PermIn 0 t.size t d ∧ Sort.SortedIn lexB 0 d.size d ∧ SWK encT 4 w blk 0 d w' from fun w' ⟨d', h1, h2, h3⟩ => ⟨d', by rw [hd]; exact h1, by rw [h1.1, hd]; exact h2, h3⟩)
    replace ST := Lib.hid ST
    clear R hl hd hr
    go_enter Tryd.func26, Tryd.ntmps26
    go_wp2_with (go_at_call 44; refine ST.out.mono ?_; clear ST; rintro e w' ⟨rfl, hS⟩)
    go_end0
    exact ⟨rfl, FIN.out _ hS⟩
end Go.Proofs.YtkkdclibbdeejaaDoor
