/- Package rules: slices.SortStableFunc past one block: swapRange and rotate, over any program that has them. -/
import Derived.Test.YtkkdclibbdeejaaDoorXElcrp
import Derived.Test.YtkkdclibbdeejaaDoorXGed
import Derived.Sort.WalkB2
import Derived.Sort.WalkB12
import Derived.Deep.LoopGhost
set_option maxRecDepth 100000
set_option maxHeartbeats 64000000
namespace Go.Proofs.YtkkdclibbdeejaaDoor
open Go.Shelf Go.RowKit Go.Lib
structure StabP (P : Program) (k : Nat) : Prop where
  mixed : P.follows .mixedOrders = true
  aE : ∀ w, (isAgg 35).run P w = .ok true w
  zE : ∀ w, (Go.sizeOf 35).run P w = .ok k w
  t1 : P.underlying 24 = some (.slice 35)
  a1 : ∀ w, (isAgg 24).run P w = .ok false w
  z1 : ∀ w, (Go.sizeOf 24).run P w = .ok 1 w
  v1 : ∀ w, (zeroValue 24).run P w = .ok (.slice none 0 0) w
  t2 : P.underlying 3 = some (.int .i64)
  a2 : ∀ w, (isAgg 3).run P w = .ok false w
  z2 : ∀ w, (Go.sizeOf 3).run P w = .ok 1 w
  v2 : ∀ w, (zeroValue 3).run P w = .ok (.int .i64 0) w
  t3 : P.underlying 4 = some .bool
  a3 : ∀ w, (isAgg 4).run P w = .ok false w
  z3 : ∀ w, (Go.sizeOf 4).run P w = .ok 1 w
  v3 : ∀ w, (zeroValue 4).run P w = .ok (.bool false) w
  t4 : P.underlying 86 = some (.int .u64)
  a4 : ∀ w, (isAgg 86).run P w = .ok false w
  z4 : ∀ w, (Go.sizeOf 86).run P w = .ok 1 w
  v4 : ∀ w, (zeroValue 86).run P w = .ok (.int .u64 0) w
  t5 : P.underlying 48 = some (.func #[35, 35] #[3] false)
  a5 : ∀ w, (isAgg 48).run P w = .ok false w
  z5 : ∀ w, (Go.sizeOf 48).run P w = .ok 1 w
  v5 : ∀ w, (zeroValue 48).run P w = .ok .nilFunc w
  fS : P.funcs[83]? = some Tryd.f83
  fR : P.funcs[69]? = some Tryd.f69
  fM : P.funcs[58]? = some Tryd.f58
theorem stabTry : StabP Tryd.prog 4 := {
  mixed := insl.mixed
  aE := Tryd.isAgg35
  zE := Tryd.sizeOf35
  t1 := Tryd.underlying24
  a1 := Tryd.isAgg24
  z1 := Tryd.sizeOf24
  v1 := Tryd.zeroValue24
  t2 := Tryd.underlying3
  a2 := Tryd.isAgg3
  z2 := Tryd.sizeOf3
  v2 := Tryd.zeroValue3
  t3 := Tryd.underlying4
  a3 := Tryd.isAgg4
  z3 := Tryd.sizeOf4
  v3 := Tryd.zeroValue4
  t4 := Tryd.underlying86
  a4 := Tryd.isAgg86
  z4 := Tryd.sizeOf86
  v4 := Tryd.zeroValue86
  t5 := Tryd.underlying48
  a5 := Tryd.isAgg48
  z5 := Tryd.sizeOf48
  v5 := Tryd.zeroValue48
  fS := Tryd.func83
  fR := Tryd.func69
  fM := Tryd.func58 }
variable {P : Program} {k : Nat}
theorem swapE (L : StabP P k) {blk cap a b n : Nat} {d0 d : Array Tg} {w0 w : World} (K : Value) (R : RowK encT k w0 blk 0 d0) (hs : d0.size = d.size) (S : SWK encT k w0 blk 0 d w) (h1 : a + n ≤ b) (h2 : b + n ≤ d.size) (hsz : d.size < 1000000) :
    Calls P 83 #[.slice (some ⟨blk, 0, none⟩) d.size cap, .int .i64 a, .int .i64 b, .int .i64 n, K] w fun e w' => e = .returned (.tuple #[]) ∧ ∃ d', SwR d d' a b n ∧ SWK encT k w0 blk 0 d' w' := by
  have mixed := L.mixed; have aE := L.aE; have zE := L.zE; have t1 := L.t1; have a1 := L.a1; have z1 := L.z1; have v1 := L.v1; have t2 := L.t2; have a2 := L.a2; have z2 := L.z2; have v2 := L.v2; have t3 := L.t3; have a3 := L.a3; have z3 := L.z3; have v3 := L.v3; have t4 := L.t4; have a4 := L.a4; have z4 := L.z4; have v4 := L.v4; have t5 := L.t5; have a5 := L.a5; have z5 := L.z5; have v5 := L.v5
  have FG := L.fS
  have S0 : Aside (SWK encT k w0 blk 0 d w) := S
  have R0 : Aside (RowK encT k w0 blk 0 d0) := R
  clear S R L
  have Z0 : Hid (SwR d d a b 0) := Lib.hid (SwR.zero d a b)
  go_enter FG, Tryd.ntmps83
  go_wp2
  go_loopg [10] n (fun kx s10 wr => ∃ (i : Nat) (dk : Array Tg), s10 = .int .i64 i ∧ i ≤ n ∧ n - i ≤ kx ∧ Hid (SwR d dk a b i) ∧ Aside (SWK encT k w0 blk 0 dk wr))
  case atStart => exact ⟨0, d, rfl, Nat.zero_le _, by omega, Z0, S0⟩
  case round =>
    clear S0 Z0
    obtain ⟨i, dk, rfl, hi, hkx, HS, S1⟩ := hrel
    by_cases hlt : i < n
    · have hlz : (i : Int) < (n : Int) := by omega
      have hds : dk.size = d.size := HS.out.1
      have HS2 : Hid (SwR d (Sort.swp dk (a + i) (b + i)) a b (i + 1)) := Lib.hid (HS.out.step (by omega) (by omega))
      have ra44 : IntKind.i64.wrap ((a : Int) + (i : Int)) = (a : Int) + (i : Int) := by rw [IntKind.wrap_i64]; omega
      have rc44 : IntKind.i64.wrap ((b : Int) + (i : Int)) = (b : Int) + (i : Int) := by rw [IntKind.wrap_i64]; omega
      have ea44 : ((a : Int) + (i : Int)).toNat = a + i := by omega
      have pa44 : (0 : Int) ≤ (a : Int) + (i : Int) := by omega
      have ba44 : (a : Int) + (i : Int) < (d.size : Int) := by omega
      have ec44 : ((b : Int) + (i : Int)).toNat = b + i := by omega
      have pc44 : (0 : Int) ≤ (b : Int) + (i : Int) := by omega
      have bc44 : (b : Int) + (i : Int) < (d.size : Int) := by omega
      have S2 : Aside (SWK encT k w0 blk 0 (Sort.swp dk (a + i) (b + i)) ((wr.drew.setCells blk (0 + (a + i) * k) (encT dk[b + i]!)).setCells blk (0 + (b + i) * k) (encT dk[a + i]!))) := S1.out.swapped R0.out (a + i) (b + i) (by omega) (by omega)
      have l44a := S1.out.ld1 R0.out (by omega) P (a + i) (by omega)
      have l44b := S1.out.ld1 R0.out (by omega) P (b + i) (by omega)
      have s44a := S1.out.st1 R0.out (by omega) P (a + i) (by omega) dk[b + i]!
      have s44b := S1.out.st2 R0.out (by omega) P (a + i) (b + i) (by omega) (by omega) dk[b + i]! dk[a + i]!
      have n44a : (encT dk[a + i]!).length = k := R0.out.hk _
      have n44b : (encT dk[b + i]!).length = k := R0.out.hk _
      generalize encT dk[a + i]! = cI44 at S2 l44a s44b n44a
      generalize encT dk[b + i]! = cJ44 at S2 l44b s44a s44b n44b
      rw [Nat.zero_add, Nat.zero_add] at s44b S2
      rw [Nat.zero_add] at l44a l44b s44a
      clear S1
      go_wp2_with fail
      go_big_region_o
      clear l44a l44b s44a s44b
      generalize (wr.drew.setCells blk ((a + i) * k) cJ44).setCells blk ((b + i) * k) cI44 = w2 at S2 ⊢
      go_wp2
      go_roundg (n - (i + 1))
      case measure => omega
      case rel => exact ⟨i + 1, Sort.swp dk (a + i) (b + i), by go_num, by omega, Nat.le_refl _, HS2, S2⟩
    · have hlz : ¬ (i : Int) < (n : Int) := by omega
      have e : i = n := by omega
      subst e
      go_wp2
      go_end0
      exact ⟨rfl, dk, HS.out, S1.out⟩
theorem rotE (L : StabP P k) {blk cap a m b : Nat} {d0 d : Array Tg} {w0 w : World} (K : Value) (R : RowK encT k w0 blk 0 d0) (hs : d0.size = d.size) (S : SWK encT k w0 blk 0 d w) (h1 : a < m) (h2 : m < b) (h3 : b ≤ d.size) (hsz : d.size < 1000000) :
    Calls P 69 #[.slice (some ⟨blk, 0, none⟩) d.size cap, .int .i64 a, .int .i64 m, .int .i64 b, K] w fun e w' => e = .returned (.tuple #[]) ∧ ∃ d', Rot d d' a m b ∧ SWK encT k w0 blk 0 d' w' := by
  have C := Lib.hid (fun (a' b' n' : Nat) (dk : Array Tg) (W : World) (hz : dk.size = d.size) (S' : SWK encT k w0 blk 0 dk W) (g1 : a' + n' ≤ b') (g2 : b' + n' ≤ d.size) => hz ▸ swapE (cap := cap) (a := a') (b := b') (n := n') L K R (hs.trans hz.symm) S' g1 (by omega) (by omega))
  have mixed := L.mixed; have aE := L.aE; have zE := L.zE; have t1 := L.t1; have a1 := L.a1; have z1 := L.z1; have v1 := L.v1; have t2 := L.t2; have a2 := L.a2; have z2 := L.z2; have v2 := L.v2; have t3 := L.t3; have a3 := L.a3; have z3 := L.z3; have v3 := L.v3; have t4 := L.t4; have a4 := L.a4; have z4 := L.z4; have v4 := L.v4; have t5 := L.t5; have a5 := L.a5; have z5 := L.z5; have v5 := L.v5
  have FG := L.fR
  have es : ∀ args w, (callFunc 83 args).run P w = .ok (.enter 83 args) w := enters_of L.fS (by kernel_rfl) rfl
  have S0 : Aside (SWK encT k w0 blk 0 d w) := S
  have Z0 : Hid (∀ d', Rot d d' (m - (m - a)) m (m + (b - m)) → Rot d d' a m b) := Lib.hid (by rw [show m - (m - a) = a by omega, show m + (b - m) = b by omega]; exact fun _ h => h)
  clear S L R
  go_enter FG, Tryd.ntmps69
  go_wp2
  go_loopg [10, 11] (b - a) (fun kx s10 s11 wr => ∃ (i j : Nat) (dk : Array Tg), s10 = .int .i64 i ∧ s11 = .int .i64 j ∧ 0 < i ∧ 0 < j ∧ i ≤ m ∧ m + j ≤ d.size ∧ i + j ≤ kx ∧ dk.size = d.size ∧ Hid (∀ d', Rot dk d' (m - i) m (m + j) → Rot d d' a m b) ∧ Aside (SWK encT k w0 blk 0 dk wr))
  case atStart => exact ⟨m - a, b - m, d, by go_num, by go_num, by omega, by omega, by omega, by omega, by omega, rfl, Z0, S0⟩
  case round =>
    clear S0 Z0
    obtain ⟨i, j, dk, rfl, rfl, hi, hj, him, hmj, hkx, hds, HR, S1⟩ := hrel
    have r1 : IntKind.i64.wrap ((m : Int) - (i : Int)) = (m : Int) - (i : Int) := by rw [IntKind.wrap_i64]; omega
    have n1 : ((m - i : Nat) : Int) = (m : Int) - (i : Int) := by omega
    by_cases e : i = j
    · subst e
      have C1 := Lib.hid (C.out (m - i) m i dk wr hds S1.out (by omega) (by omega))
      replace HR := Lib.hid (fun d' h => HR.out d' (Rot.eq (d := dk) (d' := d') h him))
      replace C1 := C1.out
      rw [n1] at C1
      replace C1 := Lib.hid C1
      clear C S1
      go_wp2_with (go_at_call 83; refine C1.out.mono ?_; clear C1; rintro e w' ⟨rfl, d', hR, hS⟩)
      go_end0
      exact ⟨rfl, d', HR.out _ hR, hS⟩
    · have ez : ¬ (i : Int) = (j : Int) := by omega
      by_cases g : j < i
      · have gz : (j : Int) < (i : Int) := by omega
        have C1 := C.out (m - i) m j dk wr hds S1.out (by omega) (by omega)
        rw [n1] at C1
        replace C1 := Lib.hid C1
        have r2 : IntKind.i64.wrap ((i : Int) - (j : Int)) = (i : Int) - (j : Int) := by rw [IntKind.wrap_i64]; omega
        replace HR := Lib.hid (fun (d2 : Array Tg) (hS : SwR dk d2 (m - i) m j) d' h => HR.out d' (Rot.gt (d := dk) (d2 := d2) (d' := d') hS h g him (by omega)))
        clear S1
        go_wp2_with (go_at_call 83; refine C1.out.mono ?_; clear C1; rintro e w' ⟨rfl, d2, hR, hS⟩)
        go_roundg (i - j + j)
        case measure => omega
        case rel => exact ⟨i - j, j, d2, by go_num, rfl, by omega, hj, by omega, hmj, Nat.le_refl _, hR.1.trans hds, Lib.hid (HR.out d2 hR), hS⟩
      · have gz : ¬ (j : Int) < (i : Int) := by omega
        have n2 : ((m + j - i : Nat) : Int) = (m : Int) + (j : Int) - (i : Int) := by omega
        have C1 := C.out (m - i) (m + j - i) i dk wr hds S1.out (by omega) (by omega)
        rw [n1, n2] at C1
        replace C1 := Lib.hid C1
        have r2 : IntKind.i64.wrap ((j : Int) - (i : Int)) = (j : Int) - (i : Int) := by rw [IntKind.wrap_i64]; omega
        have r3 : IntKind.i64.wrap ((m : Int) + (j : Int)) = (m : Int) + (j : Int) := by rw [IntKind.wrap_i64]; omega
        have r4 : IntKind.i64.wrap ((m : Int) + (j : Int) - (i : Int)) = (m : Int) + (j : Int) - (i : Int) := by rw [IntKind.wrap_i64]; omega
        replace HR := Lib.hid (fun (d2 : Array Tg) (hS : SwR dk d2 (m - i) (m + j - i) i) d' h => HR.out d' (Rot.lt (d := dk) (d2 := d2) (d' := d') hS h (by omega) him (by omega)))
        clear S1
        go_wp2_with (go_at_call 83; refine C1.out.mono ?_; clear C1; rintro e w' ⟨rfl, d2, hR, hS⟩)
        go_roundg (i + (j - i))
        case measure => omega
        case rel => exact ⟨i, j - i, d2, rfl, by go_num, hi, by omega, him, by omega, Nat.le_refl _, hR.1.trans hds, Lib.hid (HR.out d2 hR), hS⟩
end Go.Proofs.YtkkdclibbdeejaaDoor
